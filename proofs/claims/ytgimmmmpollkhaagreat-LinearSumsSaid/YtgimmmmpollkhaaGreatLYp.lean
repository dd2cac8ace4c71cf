
/-
  Sums: the place of a term's part (linear.find).
  Sums: a term's number (linear.Coef).
  Sums: two lists of parts in one (slices.Concat, slices.Grow).
  Sums: what a term is (linear.Solve).
-/
import Derived.Test.YtgimmmmpollkhaaGreatLYa
import Derived.Test.YtgimmmmpollkhaaGreatLYk
import Derived.Shelf.Spec.SlicesGrow
namespace Go.Proofs.YtgimmmmpollkhaaGreat

open Go.ChangeShapes Go.RowKit

namespace Nt
set_option maxRecDepth 100000
set_option linter.unusedSimpArgs false
set_option linter.unusedVariables false

theorem lss_b (t : TypeId) (x y : Int) (b : Bool) (h : decide (x < y) = b) : binOp .lss t (.int .i64 x) (.int .i64 y) = pure (.bool b) := by rw [← h]; rfl
theorem gtr_b (t : TypeId) (x y : Int) (b : Bool) (h : decide (y < x) = b) : binOp .gtr t (.int .i64 x) (.int .i64 y) = pure (.bool b) := by rw [← h]; rfl
theorem eql_b (t : TypeId) (x y : Int) (b : Bool) (h : decide (x = y) = b) : binOp .eql t (.int .i64 x) (.int .i64 y) = pure (.bool b) := by
  show pure (Value.bool (x == y)) = _
  rw [← h]
  rfl
theorem compare_i (x y : Int) (w : World) : Calls Tryz.prog 107 #[.int .i64 x, .int .i64 y] w fun e w' => e = .returned (.int .i64 (cmpZ x y)) ∧ w' = w := by
  unfold cmpZ
  by_cases h1 : x < y
  · rw [if_pos h1]
    go_enter Tryz.func107, Tryz.ntmps107
    go_wp2
    go_ret
    exact ⟨rfl, rfl⟩
  · rw [if_neg h1]
    by_cases h2 : y < x
    · rw [if_pos h2]
      go_enter Tryz.func107, Tryz.ntmps107
      go_wp2
      go_ret
      exact ⟨rfl, rfl⟩
    · rw [if_neg h2]
      go_enter Tryz.func107, Tryz.ntmps107
      go_wp2
      go_ret
      exact ⟨rfl, rfl⟩
theorem findf_p (p : Pt) (id : Int) (w : World) : Calls Tryz.prog 106 #[pv p, .int .i64 id] w fun e w' => e = .returned (.int .i64 (cmpZ p.t id)) ∧ Below w.heap.size w w' := by
  have hC := hide (fun W => compare_i p.t id W)
  have hX := hide (C4.new (.bool p.s) (.slice p.A p.xs.length p.a) (.slice p.B p.ys.length p.b) (.int .i64 p.t) 83 w)
  have hb : Below w.heap.size w (w.alloc (.cells #[.bool p.s, .slice p.A p.xs.length p.a, .slice p.B p.ys.length p.b, .int .i64 p.t] 83)) := bl_al (.refl _ _) _
  replace hb := hide hb
  unfold pv
  generalize p.xs.length = i1 at *
  generalize p.ys.length = i2 at *
  generalize cmpZ p.t id = z at *
  obtain ⟨x0, x1, x2, x3⟩ := hX.out
  go_enter Tryz.func106, Tryz.ntmps106
  go_wp2_with (go_at_call 107; (with_reducible refine (hC.out _).mono ?_); rintro e wa ⟨rfl, rfl⟩)
  go_ret
  exact ⟨rfl, hb.out⟩
/-- Sums that rise. -/
theorem pvB_head {t : Int} {l : List Pt} (h : pvB t l = true) {b : Nat} (hb : b < l.length) : t < l[b].t := by
  induction l generalizing t b with
  | nil => simp at hb
  | cons p l ih =>
    simp only [pvB, Bool.and_eq_true, decide_eq_true_eq] at h
    cases b with
    | zero => exact h.1.1
    | succ b =>
      have := ih h.2 (b := b) (by simpa using hb)
      have h1 := h.1.1
      simp only [List.getElem_cons_succ]
      omega
theorem pvB_lt {t : Int} {l : List Pt} (h : pvB t l = true) {a b : Nat} (hab : a < b) (hb : b < l.length) : l[a].t < l[b].t := by
  induction l generalizing t a b with
  | nil => simp at hb
  | cons p l ih =>
    simp only [pvB, Bool.and_eq_true, decide_eq_true_eq] at h
    cases b with
    | zero => omega
    | succ b =>
      cases a with
      | zero => exact pvB_head h.2 (by simpa using hb)
      | succ a => exact ih h.2 (by omega) (by simpa using hb)
/-- How far the search has come. -/
def Fd (l : List Pt) (id : Int) (i j : Nat) : Prop := ∀ t, pvB t l = true → (∀ q (h : q < l.length), q < i → l[q].t < id) ∧ (∀ q (h : q < l.length), j ≤ q → id ≤ l[q].t)
theorem Fd.start (l : List Pt) (id : Int) : Fd l id 0 l.length := fun _ _ => ⟨fun q _ h => absurd h (Nat.not_lt_zero _), fun q h h' => absurd h (by omega)⟩
theorem Fd.up {l : List Pt} {id : Int} {i j m : Nat} (h : Fd l id i j) (hm : m < l.length) (hl : l[m].t < id) : Fd l id (m + 1) j := fun t ht => by
  refine ⟨fun q hq hqm => ?_, (h t ht).2⟩
  by_cases hqe : q = m
  · subst hqe; exact hl
  · have := pvB_lt ht (a := q) (b := m) (by omega) hm
    omega
theorem Fd.down {l : List Pt} {id : Int} {i j m : Nat} (h : Fd l id i j) (hm : m < l.length) (hl : id ≤ l[m].t) : Fd l id i m := fun t ht => by
  refine ⟨(h t ht).1, fun q hq hqm => ?_⟩
  by_cases hqe : q = m
  · subst hqe; exact hl
  · have := pvB_lt ht (a := m) (b := q) (by omega) hq
    omega
/-- What a search tells: a part that is there; or that none is. -/
def FdO (l : List Pt) (id : Int) (w : World) (e : Ending) (w' : World) : Prop := ∃ (k : Nat) (b : Bool), e = .returned (.tuple #[.int .i64 (k : Int), .bool b]) ∧ (b = true → ∃ h : k < l.length, l[k].t = id) ∧ (b = false → ∀ t, pvB t l = true → ∀ p ∈ l, p.t ≠ id) ∧ Below w.heap.size w w'
theorem Fd.no {l : List Pt} {id : Int} {i j : Nat} (h : Fd l id i j) (hij : j ≤ i) (hno : ∀ hi : i < l.length, l[i].t ≠ id) : ∀ t, pvB t l = true → ∀ p ∈ l, p.t ≠ id := by
  intro t ht p hp e
  obtain ⟨q, hq, rfl⟩ := List.getElem_of_mem hp
  obtain ⟨h1, h2⟩ := h t ht
  rcases Nat.lt_trichotomy q i with hqi | hqi | hqi
  · have := h1 q hq hqi
    omega
  · subst hqi; exact hno hq e
  · have h3 := pvB_lt ht hqi hq
    have h4 := h2 i (by omega) hij
    omega

set_option maxHeartbeats 4000000 in
theorem bsearch_p (A : Option Addr) (l : List Pt) (c : Nat) (id : Int) (w : World) (hl : Pl w A l) (hn : l.length ≤ 1000000) :
    Calls Tryz.prog 105 #[.slice A l.length c, .int .i64 id, .func (.func 106) #[] #[]] w (FdO l id w) := by
  have hP := hide (fun W (b : Below w.heap.size w W) => Pl.next hl b)
  have hF := hide (fun (p : Pt) W => findf_p p id W)
  have hst := hide (Fd.start l id)
  obtain ⟨n, hnn⟩ : ∃ n, n = l.length := ⟨_, rfl⟩
  rw [← hnn] at hst hn ⊢
  replace hnn := hide hnn
  clear hl
  go_enter Tryz.func105, Tryz.ntmps105
  go_wp2_with fail
  go_loopw [9, 10] (fun vi vj wr => ∃ i j : Nat, i ≤ j ∧ j ≤ n ∧ vi = .int .i64 (i : Int) ∧ vj = .int .i64 (j : Int) ∧ Fd l id i j ∧ Below w.heap.size w wr) (fun vi vj _ => (intOf vj).toNat - (intOf vi).toNat)
  case atStart => exact ⟨0, n, Nat.zero_le _, Nat.le_refl _, rfl, rfl, hst.out, .refl _ _⟩
  case round =>
    obtain ⟨i, j, hij, hj, rfl, rfl, hfd, hbw⟩ := hrel
    by_cases hlt : i < j
    · obtain ⟨m, hm⟩ : ∃ m, (i + j) / 2 = m := ⟨_, rfl⟩
      obtain ⟨s, hs⟩ : ∃ s, i + j = s := ⟨_, rfl⟩
      rw [hs] at hm
      have e1 := i64_add 3 i j s hs (by omega)
      have hlt' : (i : Int) < (j : Int) := by omega
      have hml : m < l.length := by rw [← hnn.out]; omega
      obtain ⟨g, o, rfl, ⟨x0, x1, x2, x3⟩, _⟩ := (hP.out wr hbw).get hml
      have hS := hF.out l[m]
      have hup := fun h => hfd.up hml h
      have hdn := fun h => hfd.down hml h
      unfold pv at hS
      subst hm
      have hs1 : s ≤ 2000000 := by omega
      have hs2 : s / 2 < n := by omega
      replace hS := hide hS; replace hup := hide hup; replace hdn := hide hdn; replace hs := hide hs
      clear hF hP hfd hst
      generalize l[s / 2] = p at *
      generalize p.xs.length = i1 at *
      generalize p.ys.length = i2 at *
      by_cases hc : p.t < id
      · have hz : cmpZ p.t id = -1 := by unfold cmpZ; rw [if_pos hc]
        rw [hz] at hS
        replace hc := hide hc
        go_wp2_with (go_at_call 106; (with_reducible refine (hS.out _).mono ?_); rintro e wa ⟨rfl, hb3⟩; replace hb3 := hide hb3)
        go_roundw
        case rel => exact ⟨s / 2 + 1, j, by have := hs.out; omega, hj, by go_num, rfl, hup.out hc.out, bl_trans hbw hb3.out⟩
        case measure => have := hs.out; simp only [intOf]; omega
      · obtain ⟨z, hz⟩ : ∃ z, cmpZ p.t id = z := ⟨_, rfl⟩
        have hz0 : ¬ z < 0 := by
          rw [← hz]
          unfold cmpZ
          rw [if_neg hc]
          split <;> omega
        rw [hz] at hS
        replace hc := hide hc; replace hz := hide hz
        go_wp2_with (go_at_call 106; (with_reducible refine (hS.out _).mono ?_); rintro e wa ⟨rfl, hb3⟩; replace hb3 := hide hb3)
        go_roundw
        case rel => exact ⟨i, s / 2, by have := hs.out; omega, by have := hs.out; omega, rfl, by go_num, hdn.out (by have := hc.out; omega), bl_trans hbw hb3.out⟩
        case measure => have := hs.out; simp only [intOf]; omega
    · have hlt' : ¬ (i : Int) < (j : Int) := by omega
      have hno := fun h => hfd.no (by omega) h
      by_cases hin : i < n
      · have hil : i < l.length := by rw [← hnn.out]; exact hin
        have hin' : (i : Int) < (n : Int) := by omega
        obtain ⟨g, o, rfl, ⟨x0, x1, x2, x3⟩, _⟩ := (hP.out wr hbw).get hil
        have hS := hF.out l[i]
        have hat : FdO l id w = FdO l id w := rfl
        have hyes : ∀ (b : Bool), b = true → l[i].t = id → ∃ h : i < l.length, l[i].t = id := fun _ _ e => ⟨hil, e⟩
        have hno' : l[i].t ≠ id → ∀ t, pvB t l = true → ∀ p ∈ l, p.t ≠ id := fun h => hno (fun _ => h)
        unfold pv at hS
        replace hS := hide hS; replace hno' := hide hno'; replace hyes := hide hyes
        clear hF hP hfd hst hno hat
        generalize l[i] = p at *
        generalize p.xs.length = i1 at *
        generalize p.ys.length = i2 at *
        by_cases hc : p.t = id
        · have hz : cmpZ p.t id = 0 := by unfold cmpZ; rw [if_neg (by omega), if_neg (by omega)]
          rw [hz] at hS
          replace hc := hide hc
          go_wp2_with (go_at_call 106; (with_reducible refine (hS.out _).mono ?_); rintro e wa ⟨rfl, hb3⟩; replace hb3 := hide hb3)
          go_ret2
          exact ⟨i, true, rfl, fun _ => hyes.out true rfl hc.out, fun h => (by cases h), bl_trans hbw hb3.out⟩
        · obtain ⟨z, hz⟩ : ∃ z, cmpZ p.t id = z := ⟨_, rfl⟩
          have hz0 : (z == 0) = false := by
            rw [← hz]
            unfold cmpZ
            split
            · rfl
            · split
              · rfl
              · omega
          rw [hz] at hS
          replace hc := hide hc; replace hz := hide hz
          go_wp2_with (go_at_call 106; (with_reducible refine (hS.out _).mono ?_); rintro e wa ⟨rfl, hb3⟩; replace hb3 := hide hb3)
          go_ret2
          exact ⟨i, false, rfl, fun h => (by cases h), fun _ => hno'.out hc.out, bl_trans hbw hb3.out⟩
      · have hin' : ¬ (i : Int) < (n : Int) := by omega
        have hno' : ∀ t, pvB t l = true → ∀ p ∈ l, p.t ≠ id := hno (fun h => absurd h (by rw [← hnn.out]; exact hin))
        replace hno' := hide hno'
        clear hF hP hfd hst hno
        go_wp2_with fail
        go_ret2
        exact ⟨i, false, rfl, fun h => (by cases h), fun _ => hno'.out, hbw⟩

set_option maxHeartbeats 4000000 in
/-- linear.find. -/
theorem find_p (A : Option Addr) (l : List Pt) (k : Nat) (c : Pt) (id : Int) (w : World) (hl : Pl w A l) (hn : l.length ≤ 1000000) :
    Calls Tryz.prog 60 #[polyV A l.length k c, .int .i64 id] w (FdO l id w) := by
  have hS := hide (fun W (b : Below w.heap.size w W) => bsearch_p A l k id W (hl.next b) hn)
  unfold polyV
  have hC := hide (C4.new (.slice A l.length k) (.bool c.s) (.slice c.A c.xs.length c.a) (.slice c.B c.ys.length c.b) 27 w)
  have hb := hide (bl_al (.refl _ _) (.cells #[.slice A l.length k, .bool c.s, .slice c.A c.xs.length c.a, .slice c.B c.ys.length c.b] 27) : Below w.heap.size w (w.alloc (.cells #[.slice A l.length k, .bool c.s, .slice c.A c.xs.length c.a, .slice c.B c.ys.length c.b] 27)))
  clear hl
  obtain ⟨n, hnn⟩ : ∃ n, n = l.length := ⟨_, rfl⟩
  rw [← hnn] at hS hC hb ⊢
  replace hnn := hide hnn
  generalize c.xs.length = i1 at *
  generalize c.ys.length = i2 at *
  obtain ⟨y0, y1, y2, y3⟩ := hC.out
  go_enter Tryz.func60, Tryz.ntmps60
  go_wp2_with (go_at_call 105; (with_reducible refine (hS.out _ hb.out).mono ?_); rintro e w1 ⟨m, b, rfl, h1, h2, hb1⟩; replace h1 := hide h1; replace h2 := hide h2; replace hb1 := hide hb1)
  go_ret2
  exact ⟨m, b, rfl, h1.out, h2.out, bl_trans hb.out hb1.out⟩
end Nt

end Go.Proofs.YtgimmmmpollkhaaGreat

namespace Go.Proofs.YtgimmmmpollkhaaGreat

open Go.ChangeShapes Go.RowKit

namespace Nt
set_option maxRecDepth 100000
set_option linter.unusedSimpArgs false
set_option linter.unusedVariables false

/-- A term's number; 0 of none. -/
def cof : List (Rat × Int) → Int → Rat
  | [], _ => 0
  | x :: l, id => if x.2 = id then x.1 else cof l id
theorem cof_none {l : List Pt} {id : Int} (h : ∀ p ∈ l, p.t ≠ id) : cof (l.map Pt.qt) id = 0 := by
  induction l with
  | nil => rfl
  | cons p l ih =>
    show (if p.t = id then p.q else cof (l.map Pt.qt) id) = 0
    rw [if_neg (h p (by simp)), ih fun r hr => h r (by simp [hr])]
theorem cof_at {l : List Pt} {t id : Int} (h : pvB t l = true) {k : Nat} (hk : k < l.length) (hid : l[k].t = id) : cof (l.map Pt.qt) id = l[k].q := by
  induction l generalizing t k with
  | nil => simp at hk
  | cons p l ih =>
    show (if p.t = id then p.q else cof (l.map Pt.qt) id) = _
    cases k with
    | zero => exact if_pos hid
    | succ k =>
      have hlt := pvB_lt h (a := 0) (b := k + 1) (by omega) hk
      simp only [List.getElem_cons_zero, List.getElem_cons_succ] at hlt hid ⊢
      rw [if_neg (by omega)]
      simp only [pvB, Bool.and_eq_true] at h
      exact ih h.2 (by simpa using hk) hid
theorem pvB_ok {t : Int} {l : List Pt} (h : pvB t l = true) (f : ∀ p ∈ l, p.Few) : ∀ p ∈ l, p.Ok := by
  induction l generalizing t with
  | nil => intro p hp; simp at hp
  | cons q l ih =>
    simp only [pvB, Bool.and_eq_true] at h
    intro p hp
    rcases List.mem_cons.1 hp with rfl | hp
    · exact ok_of (f _ (by simp)) h.1.2.1
    · exact ih h.2 (fun r hr => f r (by simp [hr])) p hp
/-- The boxes of a sum and of a number that is told. -/
def Cw (w : World) (c : Pt) (A : Option Addr) (n k : Nat) : World := (w.alloc (.cells #[.slice A n k, .bool c.s, .slice c.A c.xs.length c.a, .slice c.B c.ys.length c.b] 27)).alloc (.cells zR 25)
theorem Cw.start (w : World) (c : Pt) (A : Option Addr) (n k : Nat) {W : World} (hb : Below (Cw w c A n k).heap.size (Cw w c A n k) W) : C4 w.heap.size (.slice A n k) (.bool c.s) (.slice c.A c.xs.length c.a) (.slice c.B c.ys.length c.b) W ∧ Bk (w.heap.size + 1) zR 25 W ∧ Below w.heap.size w W := by
  have h1 : Bk w.heap.size #[.slice A n k, .bool c.s, .slice c.A c.xs.length c.a, .slice c.B c.ys.length c.b] 27 (Cw w c A n k) := (Bk.new _ _ w).al _
  have h2 : Bk (w.heap.size + 1) zR 25 (Cw w c A n k) := Bk.new1 _ _ w _
  exact ⟨(C4.of h1).next hb, h2.next hb, bl_trans (bl_al (bl_al (.refl _ _) _) _) hb⟩
theorem at_offR {g : Nat} {t : TypeId} {W W' : World} {p : Pt} (h : Bk g zR t W) (hp : p.At W) (hO : Off [g] W W') : p.At W' := ⟨h.sl zR_no hp.1 hO, h.sl zR_no hp.2 hO⟩
/-- The number told is stored. -/
theorem newR_done {w W : World} {g : Nat} {q : Rat} {r : Pt} (hbw : Below w.heap.size w W) (hR : Bk g zR 25 W) (hg : w.heap.size ≤ g) (hq : r.q = q) (hok : r.Ok) (hat : r.At W) :
    NewR q w (.returned (rv r)) (((W.setCell ⟨g, 0, none⟩ (.bool r.s)).setCell ⟨g, 1, none⟩ (.slice r.A r.xs.length r.a)).setCell ⟨g, 2, none⟩ (.slice r.B r.ys.length r.b)) := by
  have hO := off3 g W (.bool r.s) (.slice r.A r.xs.length r.a) (.slice r.B r.ys.length r.b)
  exact ⟨r, rfl, hq, hok, at_offR hR hat hO, hbw.trans (hO.below hbw.size (fun b hb => by simp at hb; omega))⟩

set_option maxHeartbeats 4000000 in
/-- linear.Coef. -/
theorem lcoef_any (A : Option Addr) (l : List Pt) (k : Nat) (c : Pt) (id : Int) (w : World) (hl : Pl w A l) (hc : c.At w) (fl : ∀ p ∈ l, p.Few) (fc : c.Few) (hn : l.length ≤ 1000) :
    Calls Tryz.prog 27 #[polyV A l.length k c, .int .i64 id] w (NewR (if (pvB (-1) l && c.ok) = true then cof (l.map Pt.qt) id else 0) w) := by
  obtain ⟨v, hv⟩ : ∃ v, (pvB (-1) l && c.ok) = v := ⟨_, rfl⟩
  have hF := hide (fun W (b : Below w.heap.size w W) => find_p A l k c id W (hl.next b) (by omega))
  have hV := hide (fun W (b : Below w.heap.size w W) => lvalid_any A l k c W (hl.next b) (hc.next b) fl fc hn v hv)
  have hO := hide (fun W => (of_pos 0 1 0 W (by decide) (by decide) (by decide) (by decide) (by decide) (by rfl)).mono fun e w' h => RQ.newR h fit0)
  have hX := hide (fun (j : Nat) (h : j < l.length) (e : v = true) W (b : Below w.heap.size w W) => (show _ ∧ _ from ⟨(hl.next b).get h, fun (W' : World) (b' : Below W.heap.size W W') => copied_p (pvB_ok (t := -1) (by rw [e] at hv; simp at hv; exact hv.1) fl l[j] (List.getElem_mem h)) W' (by
    obtain ⟨_, _, _, _, h5⟩ := (hl.next (bl_trans b b')).get h
    exact h5)⟩))
  have hst := hide (fun W (b : Below (Cw w c A l.length k).heap.size (Cw w c A l.length k) W) => Cw.start w c A l.length k b)
  have hb0 : Below w.heap.size w (Cw w c A l.length k) := bl_al (bl_al (.refl _ _) _) _
  have hbz := hide (hst.out _ (Below.refl _ _))
  have hcn : (∀ p ∈ l, p.t ≠ id) → (if v = true then cof (l.map Pt.qt) id else 0) = 0 := fun h => by
    rw [cof_none h]
    split <;> rfl
  have hca : ∀ j (h : j < l.length), l[j].t = id → v = true → (if v = true then cof (l.map Pt.qt) id else 0) = l[j].q := fun j h e hv' => by
    rw [if_pos hv']
    rw [hv'] at hv
    rw [Bool.and_eq_true] at hv
    exact cof_at hv.1 h e
  have hpv : v = true → ∃ t, pvB t l = true := fun e => ⟨-1, by rw [e] at hv; rw [Bool.and_eq_true] at hv; exact hv.1⟩
  rw [hv]
  clear hl hc fl fc hv
  obtain ⟨n, hnn⟩ : ∃ n, n = l.length := ⟨_, rfl⟩
  unfold polyV at *
  unfold Cw zR at hb0 hst hbz
  rw [← hnn] at hF hV hst hb0 hbz hn ⊢
  replace hst := hide hst.out
  replace hb0 := hide hb0
  replace hnn := hide hnn
  generalize c.xs.length = i1 at *
  generalize c.ys.length = i2 at *
  obtain ⟨⟨x0, x1, x2, x3⟩, _⟩ := hbz.out
  replace hcn := hide hcn; replace hca := hide hca; replace hpv := hide hpv
  by_cases hno : ∀ p ∈ l, p.t ≠ id
  · rw [hcn.out hno]
    have hF2 : ∀ W, Below w.heap.size w W → Calls Tryz.prog 60 #[.agg #[.slice A n k, .bool c.s, .slice c.A i1 c.a, .slice c.B i2 c.b], .int .i64 id] W fun e w' => ∃ j : Nat, e = .returned (.tuple #[.int .i64 (j : Int), .bool false]) ∧ Below W.heap.size W w' := fun W b => (hF.out W b).mono fun e w' ⟨j, b, h1, h2, h3, h4⟩ => by
      cases b with
      | true =>
        obtain ⟨h5, h6⟩ := h2 rfl
        exact absurd h6 (hno _ (List.getElem_mem h5))
      | false => exact ⟨j, h1, h4⟩
    replace hF2 := hide hF2
    clear hF hno hcn hca hpv hX
    go_enter Tryz.func27, Tryz.ntmps27
    go_wp2_with (first
      | (go_at_call 60; (with_reducible refine (hF2.out _ hb0.out).mono ?_); rintro e w1 ⟨j, rfl, hb⟩; clear x0 x1 x2 x3; obtain ⟨⟨x0, x1, x2, x3⟩, _, hbw⟩ := hst.out w1 hb; replace hbw := hide hbw; replace hb := hide hb)
      | (go_at_call 62; (with_reducible refine (hO.out _).mono ?_); rintro e w2 ⟨r, rfl, hq, hok, hat, hb2⟩; obtain ⟨_, hR, hbw2⟩ := hst.out w2 (bl_trans hb.out hb2); have r0 := hR.cell (j := 0) rfl; have r1 := hR.cell (j := 1) rfl; have r2 := hR.cell (j := 2) rfl; have s0 := hR.free 0; have s1 := hR.free 1; have s2 := hR.free 2; replace hR := hide hR; replace hbw2 := hide hbw2; replace hq := hide hq; replace hok := hide hok; replace hat := hide hat; clear hb2))
    exact bodyPost_ret (v := .agg #[.bool r.s, .slice r.A r.xs.length r.a, .slice r.B r.ys.length r.b]) (by simp [results, Tryz.results27, go_sem, r0, r1, r2]) rfl (newR_done hbw2.out hR.out (by omega) hq.out hok.out hat.out)
  · cases v with
    | false =>
      rw [if_neg (by decide)]
      have hF2 : ∀ W, Below w.heap.size w W → Calls Tryz.prog 60 #[.agg #[.slice A n k, .bool c.s, .slice c.A i1 c.a, .slice c.B i2 c.b], .int .i64 id] W fun e w' => ∃ (j : Nat) (b : Bool), e = .returned (.tuple #[.int .i64 (j : Int), .bool b]) ∧ Below W.heap.size W w' := fun W b => (hF.out W b).mono fun e w' ⟨j, b, h1, h2, h3, h4⟩ => ⟨j, b, h1, h4⟩
      replace hF2 := hide hF2
      clear hF hno hcn hca hpv hX
      go_enter Tryz.func27, Tryz.ntmps27
      go_wp2_with (first
        | (go_at_call 60; (with_reducible refine (hF2.out _ hb0.out).mono ?_); rintro e w1 ⟨j, b, rfl, hb⟩; clear x0 x1 x2 x3; obtain ⟨⟨x0, x1, x2, x3⟩, _, hbw⟩ := hst.out w1 hb; replace hbw := hide hbw; replace hb := hide hb; cases b)
        | (go_at_call 25; (with_reducible refine (hV.out _ hbw.out).mono ?_); rintro e w2 ⟨rfl, hbv⟩; clear x0 x1 x2 x3; obtain ⟨⟨x0, x1, x2, x3⟩, hR0, hbw1⟩ := hst.out w2 (bl_trans hb.out hbv); replace hbw1 := hide hbw1; replace hR0 := hide hR0; replace hb := hide (bl_trans hb.out hbv); clear hbv)
        | (go_at_call 62; (with_reducible refine (hO.out _).mono ?_); rintro e w3 ⟨r, rfl, hq, hok, hat, hb2⟩; obtain ⟨_, hR, hbw2⟩ := hst.out w3 (bl_trans hb.out hb2); have r0 := hR.cell (j := 0) rfl; have r1 := hR.cell (j := 1) rfl; have r2 := hR.cell (j := 2) rfl; have s0 := hR.free 0; have s1 := hR.free 1; have s2 := hR.free 2; replace hR := hide hR; replace hbw2 := hide hbw2; replace hq := hide hq; replace hok := hide hok; replace hat := hide hat; clear hb2))
      all_goals exact bodyPost_ret (v := .agg #[.bool r.s, .slice r.A r.xs.length r.a, .slice r.B r.ys.length r.b]) (by simp [results, Tryz.results27, go_sem, r0, r1, r2]) rfl (newR_done hbw2.out hR.out (by omega) hq.out hok.out hat.out)
    | true =>
      have hF2 : ∀ W, Below w.heap.size w W → Calls Tryz.prog 60 #[.agg #[.slice A n k, .bool c.s, .slice c.A i1 c.a, .slice c.B i2 c.b], .int .i64 id] W fun e w' => ∃ (j : Nat), e = .returned (.tuple #[.int .i64 (j : Int), .bool true]) ∧ (∃ h : j < l.length, l[j].t = id) ∧ Below W.heap.size W w' := fun W b => (hF.out W b).mono fun e w' ⟨j, b, h1, h2, h3, h4⟩ => by
        cases b with
        | true => exact ⟨j, h1, h2 rfl, h4⟩
        | false =>
          obtain ⟨t, ht⟩ := hpv.out rfl
          exact absurd (h3 rfl t ht) hno
      have hca2 : ∀ j (h : j < l.length), l[j].t = id → cof (l.map Pt.qt) id = l[j].q := fun j h e => by
        have := hca.out j h e rfl
        rwa [if_pos rfl] at this
      rw [if_pos rfl]
      replace hca := hide hca2
      clear hca2
      replace hF2 := hide hF2
      clear hF hno hcn hpv hO
      go_enter Tryz.func27, Tryz.ntmps27
      go_wp2_with (go_at_call 60; (with_reducible refine (hF2.out _ hb0.out).mono ?_); rintro e w1 ⟨j, rfl, hj, hb⟩; replace hj := hide hj; clear x0 x1 x2 x3; obtain ⟨⟨x0, x1, x2, x3⟩, _, hbw⟩ := hst.out w1 hb; replace hbw := hide hbw; replace hb := hide hb)
      obtain ⟨hjl, hjt⟩ := hj.out
      have hca := hca.out j hjl hjt
      have hjn : j < n := by rw [hnn.out]; exact hjl
      clear hj
      replace hca := hide hca
      go_wp2_with (go_at_call 25; (with_reducible refine (hV.out _ hbw.out).mono ?_); rintro e w2 ⟨rfl, hbv⟩; clear x0 x1 x2 x3; obtain ⟨⟨x0, x1, x2, x3⟩, hR0, hbw1⟩ := hst.out w2 (bl_trans hb.out hbv); replace hbw1 := hide hbw1; replace hR0 := hide hR0; replace hb := hide (bl_trans hb.out hbv); clear hbv; obtain ⟨⟨g, o, rfl, ⟨c0, c1, c2, c3⟩, hat0⟩, hcp⟩ := hX.out j hjl (by first | trivial | rfl) w2 hbw1.out; clear hX hjt hat0; unfold rv at hcp; replace hcp := hide hcp; generalize l[j] = p at *; generalize p.xs.length = j1 at *; generalize p.ys.length = j2 at *)
      go_wp2_with (go_at_call 54; (with_reducible refine (hcp.out _ (.refl _ _)).mono ?_); rintro e w3 ⟨r, rfl, hq, hok, hat, hb2⟩; obtain ⟨_, hR, hbw2⟩ := hst.out w3 (bl_trans hb.out hb2); have r0 := hR.cell (j := 0) rfl; have r1 := hR.cell (j := 1) rfl; have r2 := hR.cell (j := 2) rfl; have s0 := hR.free 0; have s1 := hR.free 1; have s2 := hR.free 2; replace hR := hide hR; replace hbw2 := hide hbw2; replace hq := hide hq; replace hok := hide hok; replace hat := hide hat; clear hb2)
      exact bodyPost_ret (v := .agg #[.bool r.s, .slice r.A r.xs.length r.a, .slice r.B r.ys.length r.b]) (by simp [results, Tryz.results27, go_sem, r0, r1, r2]) rfl (newR_done hbw2.out hR.out (by omega) (hq.out.trans hca.out.symm) hok.out hat.out)
end Nt

end Go.Proofs.YtgimmmmpollkhaaGreat

namespace Go.Proofs.YtgimmmmpollkhaaGreat

open Go.ChangeShapes Go.RowKit

namespace Nt
set_option maxRecDepth 100000
set_option linter.unusedSimpArgs false
set_option linter.unusedVariables false

def growRen : Go.Shelf.Ren := ⟨fun | 4 => 113 | n => n, fun | 0 => 0 | 3 => 3 | 4 => 4 | 9 => 9 | 20 => 20 | 22 => 22 | 25 => 83 | n => n, fun | n => n⟩
theorem growLays : Lays8.n4 Tryz.prog growRen := {
  mixed := by kernel_rfl
  f4 := ⟨"slices.Grow[[]theodolite/api.Part,theodolite/api.Part]", by decide, Tryz.func113.trans (congrArg some (by kernel_rfl))⟩
  t0 := Tryz.underlying0, a0 := Tryz.isAgg0, z0 := Tryz.sizeOf0, v0 := Tryz.zeroValue0
  t3 := Tryz.underlying3, a3 := Tryz.isAgg3, z3 := Tryz.sizeOf3, v3 := Tryz.zeroValue3
  t4 := Tryz.underlying4, a4 := Tryz.isAgg4, z4 := Tryz.sizeOf4, v4 := Tryz.zeroValue4
  t9 := Tryz.underlying9, a9 := Tryz.isAgg9, z9 := Tryz.sizeOf9, v9 := Tryz.zeroValue9
  t20 := Tryz.underlying20, a20 := Tryz.isAgg20, z20 := Tryz.sizeOf20, v20 := Tryz.zeroValue20
  t22 := Tryz.underlying22, a22 := Tryz.isAgg22, z22 := Tryz.sizeOf22, v22 := Tryz.zeroValue22 }
/-- slices.Grow of nothing, by nothing; by n. -/
theorem grow_none (w : World) : Calls Tryz.prog 113 #[.slice none 0 0, .int .i64 0] w fun e w' => e = .returned (.slice none 0 0) ∧ w' = w :=
  Any8.slices_Grow_room growLays none 0 0 0 w (Nat.le_refl _) (by decide) (by decide) (Nat.le_refl _)
theorem zero_noU (n : Nat) : ∀ v ∈ (Builtin.zeroCells (Value.agg #[.bool false, .slice none 0 0, .slice none 0 0, .int .i64 0]).cells n).toList, noU v = true := by
  intro v hv
  unfold Builtin.zeroCells at hv
  simp only [Array.toList_map, List.mem_map] at hv
  obtain ⟨k, hk, rfl⟩ := hv
  have h4 : k % 4 = 0 ∨ k % 4 = 1 ∨ k % 4 = 2 ∨ k % 4 = 3 := by omega
  show noU ((#[Value.bool false, .slice none 0 0, .slice none 0 0, .int .i64 0] : Array Value)[k % 4]!) = true
  rcases h4 with h | h | h | h <;> rw [h] <;> rfl
theorem grow_some (n : Nat) (w : World) (h0 : 0 < n) (hn : n ≤ 1000000) :
    Calls Tryz.prog 113 #[.slice none 0 0, .int .i64 (n : Int)] w fun e w' => ∃ m, e = .returned (.slice (some ⟨w.heap.size, 0, none⟩) 0 m) ∧ n ≤ m ∧ Gw w.heap.size w' w.heap.size m [] ∧ Below w.heap.size w w' := by
  obtain ⟨i, hinf, hz, h1, h8⟩ := infP
  refine (Any8.slices_Grow_grow growLays i _ hinf hz (by rw [h1]; decide) none 0 0 n [] w (Nat.le_refl _) (by omega) (by rw [h8]; omega) (by omega) (by simp) (fun _ => rfl) (fun a h => by cases h)).mono ?_
  rintro e w' ⟨rfl, rfl⟩
  have hc := grownCap_ge w (0 + n) 0 (growRen.t 25)
  have hm := grownCap_le_maxLen w (0 + n) 0 (growRen.t 25) (by unfold maxLen; omega)
  refine ⟨_, rfl, by omega, ?_, ?_⟩
  · refine ⟨⟨_, Bk.new _ _ w.drew, ?_, rfl, fun v hv => ?_⟩, Nat.le_refl _, Nat.zero_le _, hm⟩
    · rw [Array.size_append, Array.size_append, size_zeroCells, size_zeroCells]
      show 0 + (0 + n - 0) * 4 + (grownCap w (0 + n) 0 (growRen.t 25) - (0 + n)) * 4 = _
      omega
    · rw [Array.toList_append, Array.toList_append] at hv
      rcases List.mem_append.1 hv with hv | hv
      · rcases List.mem_append.1 hv with hv | hv
        · simp at hv
        · exact zero_noU _ v hv
      · exact zero_noU _ v hv
  · exact bl_al (((Off.refl [] w).drew).below (Nat.le_refl _) (by simp)) _

/-- Two lists of parts in one. -/
def CcO (l : List Pt) (w : World) (e : Ending) (w' : World) : Prop := ∃ R k, e = .returned (.slice R l.length k) ∧ Pl w' R l ∧ Below w.heap.size w w'
set_option maxHeartbeats 4000000 in
/-- slices.Concat, of nothing. -/
theorem concat_none (G o : Nat) (A B : Option Addr) (ca cb : Nat) (w : World) (h0 : w.cell? ⟨G, o, none⟩ = some (.slice A 0 ca)) (h1 : w.cell? ⟨G, o + 1, none⟩ = some (.slice B 0 cb)) :
    Calls Tryz.prog 63 #[.slice (some ⟨G, o, none⟩) 2 2] w (CcO [] w) := by
  have hG := hide (grow_none w)
  have hap : ∀ (C : Option Addr) (c : Nat) ty, (Builtin.append_ #[22, 22] ty #[.slice none 0 0, .slice C 0 c]).run Tryz.prog w = .ok (.slice none 0 0) w := by
    intro C c ty
    obtain ⟨i, hinf, hz, h1, h8⟩ := infP
    have hs : Src Tryz.prog i.size 22 (.slice C 0 c) 0 [] w := by
      cases C with
      | none => exact Src.ofNil w Tryz.underlying22 c
      | some a => exact Src.ofSlice w Tryz.underlying22 a 0 c [] (by simp) (fun j u hu => by simp at hu) (fun u hu => by simp at hu)
    exact run_append_nothing w _ _ _ _ i Tryz.underlying22 hinf _ _ _ (Nat.le_refl _) _ hs
  have hp1 := hap A ca
  have hp2 := hap B cb
  go_enter Tryz.func63, Tryz.ntmps63
  go_wp2_with fail
  go_loopw [3, 11] (fun vs vi wr => ∃ i : Nat, i ≤ 2 ∧ vi = .int .i64 (i : Int) ∧ vs = .int .i64 0 ∧ wr = w) (fun _ vi _ => 2 - (intOf vi).toNat)
  case atStart => exact ⟨0, by decide, rfl, rfl, rfl⟩
  case round =>
    obtain ⟨i, hi, rfl, rfl, rfl⟩ := hrel
    have h3 : i = 0 ∨ i = 1 ∨ i = 2 := by omega
    rcases h3 with rfl | rfl | rfl
    · go_wp2_with fail
      go_roundw
      case rel => refine ⟨1, by decide, ?_, ?_, ?_⟩ <;> first | rfl | trivial
      case measure => simp only [intOf]; omega
    · go_wp2_with fail
      go_roundw
      case rel => refine ⟨2, by decide, ?_, ?_, ?_⟩ <;> first | rfl | trivial
      case measure => simp only [intOf]; omega
    · go_wp2_with (go_at_call 113; (with_reducible refine hG.out.mono ?_); rintro e wa ⟨rfl, rfl⟩)
      go_loopw [6, 27] (fun vr vi wr => ∃ i : Nat, i ≤ 2 ∧ vi = .int .i64 (i : Int) ∧ vr = .slice none 0 0 ∧ wr = wa) (fun _ vi _ => 2 - (intOf vi).toNat)
      case atStart => exact ⟨0, by decide, rfl, rfl, rfl⟩
      case round =>
        obtain ⟨i, hi, rfl, rfl, rfl⟩ := hrel
        have h3 : i = 0 ∨ i = 1 ∨ i = 2 := by omega
        rcases h3 with rfl | rfl | rfl
        · go_wp2_with (at_builtin; refine wpList_append_run _ rfl _ _ _ rfl _ _ _ _ rfl rfl hp1 ?_)
          go_roundw
          case rel => refine ⟨1, by decide, ?_, ?_, ?_⟩ <;> first | rfl | trivial
          case measure => simp only [intOf]; omega
        · go_wp2_with (at_builtin; refine wpList_append_run _ rfl _ _ _ rfl _ _ _ _ rfl rfl hp2 ?_)
          go_roundw
          case rel => refine ⟨2, by decide, ?_, ?_, ?_⟩ <;> first | rfl | trivial
          case measure => simp only [intOf]; omega
        · go_wp2_with fail
          go_ret
          exact ⟨none, 0, rfl, .inl rfl, .refl _ _⟩

set_option maxHeartbeats 4000000 in
/-- slices.Concat, of two lists of parts. -/
theorem concat_some (G o : Nat) (A B : Option Addr) (la lb : List Pt) (ca cb : Nat) (w : World) (h0 : w.cell? ⟨G, o, none⟩ = some (.slice A la.length ca)) (h1 : w.cell? ⟨G, o + 1, none⟩ = some (.slice B lb.length cb)) (hA : Pl w A la) (hB : Pl w B lb) (hp : 0 < la.length + lb.length) (hn : la.length + lb.length ≤ 1000000) :
    Calls Tryz.prog 63 #[.slice (some ⟨G, o, none⟩) 2 2] w (CcO (la ++ lb) w) := by
  have hG := hide (grow_some (la.length + lb.length) w hp hn)
  have hst : ∀ (w1 : World) (m : Nat), la.length + lb.length ≤ m → Gw w.heap.size w1 w.heap.size m [] → Below w.heap.size w w1 → ∃ w2 w3,
      (∀ ty, (Builtin.append_ #[22, 22] ty #[.slice (some ⟨w.heap.size, 0, none⟩) 0 m, .slice A la.length ca]).run Tryz.prog w1 = .ok (.slice (some ⟨w.heap.size, 0, none⟩) la.length m) w2) ∧
      (∀ ty, (Builtin.append_ #[22, 22] ty #[.slice (some ⟨w.heap.size, 0, none⟩) la.length m, .slice B lb.length cb]).run Tryz.prog w2 = .ok (.slice (some ⟨w.heap.size, 0, none⟩) (la.length + lb.length) m) w3) ∧
      (w1.cell? ⟨G, o, none⟩ = some (.slice A la.length ca) ∧ w2.cell? ⟨G, o + 1, none⟩ = some (.slice B lb.length cb)) ∧ Pl w3 (some ⟨w.heap.size, 0, none⟩) (la ++ lb) ∧ Below w.heap.size w w3 := by
    intro w1 m hm hg hb
    obtain ⟨w2, hr2, hg2, hO2⟩ := hg.pushes (c := ca) la (hA.next hb) (by simpa using (by omega : la.length ≤ m))
    have hb2 : Below w.heap.size w w2 := hb.trans (hO2.below hb.size (fun b hb' => by simp at hb'; omega))
    obtain ⟨w3, hr3, hg3, hO3⟩ := hg2.pushes (c := cb) lb (hB.next hb2) (by simpa using hm)
    have hb3 : Below w.heap.size w w3 := hb2.trans (hO3.below hb2.size (fun b hb' => by simp at hb'; omega))
    refine ⟨w2, w3, fun ty => ?_, fun ty => ?_, ⟨cell_next hb h0, cell_next hb2 h1⟩, ?_, hb3⟩
    · have := hr2 ty
      simpa using this
    · have := hr3 ty
      simpa using this
    · have := hg3.pl fun p hpm => by
        rw [List.nil_append] at hpm
        rcases List.mem_append.1 hpm with hpm | hpm
        · obtain ⟨i, hi, rfl⟩ := List.getElem_of_mem hpm
          obtain ⟨_, _, _, _, h5⟩ := (hA.next hb3).get hi
          exact h5
        · obtain ⟨i, hi, rfl⟩ := List.getElem_of_mem hpm
          obtain ⟨_, _, _, _, h5⟩ := (hB.next hb3).get hi
          exact h5
      rwa [List.nil_append] at this
  replace hst := hide hst
  have hlen : (la ++ lb).length = la.length + lb.length := List.length_append
  replace hlen := hide hlen
  clear hA hB
  generalize la ++ lb = L at *
  generalize hna : la.length = n at *
  generalize hnb : lb.length = k at *
  clear hna hnb
  generalize hs : n + k = s at *
  have e1 := i64_add 3 n k s hs (by omega)
  have hn0 : n ≤ s := by omega
  replace hs := hide hs
  obtain ⟨g, hg0⟩ : ∃ g, g = w.heap.size := ⟨_, rfl⟩
  rw [← hg0] at hst hG
  replace hg0 := hide hg0
  go_enter Tryz.func63, Tryz.ntmps63
  go_wp2_with fail
  go_loopw [3, 11] (fun vs vi wr => wr = w ∧ ((vi = .int .i64 0 ∧ vs = .int .i64 0) ∨ (vi = .int .i64 1 ∧ vs = .int .i64 (n : Int)) ∨ (vi = .int .i64 2 ∧ vs = .int .i64 (s : Int)))) (fun _ vi _ => 2 - (intOf vi).toNat)
  case atStart => exact ⟨rfl, .inl ⟨rfl, rfl⟩⟩
  case round =>
    obtain ⟨rfl, ⟨rfl, rfl⟩ | ⟨rfl, rfl⟩ | ⟨rfl, rfl⟩⟩ := hrel
    · go_wp2_with fail
      go_roundw
      case rel => refine ⟨?_, .inr (.inl ⟨?_, ?_⟩)⟩ <;> first | rfl | trivial
      case measure => simp only [intOf]; omega
    · go_wp2_with fail
      go_roundw
      case rel => refine ⟨?_, .inr (.inr ⟨?_, ?_⟩)⟩ <;> first | rfl | trivial
      case measure => simp only [intOf]; omega
    · go_wp2_with (go_at_call 113; (with_reducible refine hG.out.mono ?_); rintro e w1 ⟨m, rfl, hm, hg, hb⟩; obtain ⟨w2, w3, hp1, hp2, ⟨c0, c1⟩, hP, hbw⟩ := hst.out w1 m hm hg hb; clear h0 h1; replace hg := hide hg; replace hb := hide hb; replace hP := hide hP; replace hbw := hide hbw)
      go_loopw [6, 27] (fun vr vi wr => (vi = .int .i64 0 ∧ vr = .slice (some ⟨g, 0, none⟩) 0 m ∧ wr = w1) ∨ (vi = .int .i64 1 ∧ vr = .slice (some ⟨g, 0, none⟩) n m ∧ wr = w2) ∨ (vi = .int .i64 2 ∧ vr = .slice (some ⟨g, 0, none⟩) s m ∧ wr = w3)) (fun _ vi _ => 2 - (intOf vi).toNat)
      case atStart => exact .inl ⟨rfl, rfl, rfl⟩
      case round =>
        obtain ⟨rfl, rfl, rfl⟩ | ⟨rfl, rfl, rfl⟩ | ⟨rfl, rfl, rfl⟩ := hrel
        · go_wp2_with (at_builtin; refine wpList_append_run _ rfl _ _ _ rfl _ _ _ _ rfl rfl hp1 ?_)
          go_roundw
          case rel => refine .inr (.inl ⟨?_, ?_, ?_⟩) <;> first | rfl | trivial
          case measure => simp only [intOf]; omega
        · go_wp2_with (at_builtin; refine wpList_append_run _ rfl _ _ _ rfl _ _ _ _ rfl rfl hp2 ?_)
          go_roundw
          case rel => refine .inr (.inr ⟨?_, ?_, ?_⟩) <;> first | rfl | trivial
          case measure => simp only [intOf]; omega
        · go_wp2_with fail
          go_ret
          exact ⟨some ⟨g, 0, none⟩, m, by rw [hlen.out]; rfl, hP.out, by rw [← hg0.out]; exact hbw.out⟩
/-- slices.Concat, of two lists of parts, whatever they are. -/
theorem concat_p (G o : Nat) (A B : Option Addr) (la lb : List Pt) (ca cb : Nat) (w : World) (h0 : w.cell? ⟨G, o, none⟩ = some (.slice A la.length ca)) (h1 : w.cell? ⟨G, o + 1, none⟩ = some (.slice B lb.length cb)) (hA : Pl w A la) (hB : Pl w B lb) (hn : la.length + lb.length ≤ 1000000) :
    Calls Tryz.prog 63 #[.slice (some ⟨G, o, none⟩) 2 2] w (CcO (la ++ lb) w) := by
  by_cases hp : 0 < la.length + lb.length
  · exact concat_some G o A B la lb ca cb w h0 h1 hA hB hp hn
  · have ha : la = [] := List.eq_nil_of_length_eq_zero (by omega)
    have hb : lb = [] := List.eq_nil_of_length_eq_zero (by omega)
    subst ha hb
    exact concat_none G o A B ca cb w h0 h1
end Nt

end Go.Proofs.YtgimmmmpollkhaaGreat

namespace Go.Proofs.YtgimmmmpollkhaaGreat

open Go.ChangeShapes Go.RowKit

namespace Nt
set_option maxRecDepth 100000
set_option linter.unusedSimpArgs false
set_option linter.unusedVariables false

theorem quo_p {p k : Pt} (hp : p.Ok) (hk : k.Ok) (w : World) (aP : p.At w) (aK : k.At w) (h0 : k.q ≠ 0) (f : fitq (p.q / k.q)) : Calls Tryz.prog 61 #[rv p, rv k] w (NewQ (p.q / k.q) p.t w) := by
  rw [hp.rv, hk.rv]
  exact (quo_q p.q k.q _ rfl _ _ _ _ _ _ _ _ w (hp.sl aP).1 (hp.sl aP).2 (hk.sl aK).1 (hk.sl aK).2 hp.f hk.f h0 f).mono fun e w' h => h.newQ f _
theorem fit_lit {q : Rat} (h1 : qn q < LB) (h2 : qd q < LB) : fitq q := ⟨Nat.le_trans (ln_le (k := 1) (by rw [Nat.pow_one]; exact h1)) (by decide), Nat.le_trans (ln_le (k := 1) (by rw [Nat.pow_one]; exact h2)) (by decide)⟩
theorem fit_m1 : fitq (-1 : Rat) := fit_lit (by decide) (by decide)
theorem of_m1 (w : World) : Calls Tryz.prog 62 #[.int .i64 (-1), .int .i64 1] w (NewR (-1) w) :=
  (of_pos (-1) 1 (-1) w (by decide) (by decide) (by decide) (by decide) (by decide) (by rfl)).mono fun e w' h => RQ.newR h fit_m1
theorem fit_inv {q : Rat} (f : fitq q) (h0 : q ≠ 0) : fitq (q⁻¹) := ⟨by rw [qn_inv h0]; exact f.2, by rw [qd_inv h0]; exact f.1⟩
theorem m1_div (q : Rat) : -1 / q = -(q⁻¹) := by rw [Rat.div_def, Rat.neg_mul, Rat.one_mul]
theorem fit_m1div {q : Rat} (f : fitq q) (h0 : q ≠ 0) : fitq (-1 / q) := by
  rw [m1_div]
  exact fitq_neg (fit_inv f h0)
theorem m1_div_ne {q : Rat} (h0 : q ≠ 0) : -1 / q ≠ 0 := by
  intro e
  rcases Rat.mul_eq_zero.1 (by rw [← Rat.div_def]; exact e) with h | h
  · exact absurd h (by decide)
  · have h1 := Rat.mul_inv_cancel q h0
    rw [h, Rat.mul_zero] at h1
    exact absurd h1 (by decide)
theorem Pl.take {w : World} {A : Option Addr} {l : List Pt} (h : Pl w A l) (j : Nat) : Pl w A (l.take j) := by
  rcases h with h | ⟨g, o, e, hc⟩
  · subst h
    exact .inl (List.take_nil)
  · refine .inr ⟨g, o, e, fun i hi => ?_⟩
    rw [List.length_take] at hi
    rw [List.getElem_take]
    exact hc i (by omega)
theorem Pl.drop {w : World} {g o ca : Nat} {l : List Pt} (h : Pl w (some ⟨g, o, none⟩) l) (j : Nat) (hc : l.length ≤ ca) : Pl w (if ca = j then some ⟨g, o, none⟩ else some ⟨g, o + j * 4, none⟩) (l.drop j) := by
  by_cases hl : l.length ≤ j
  · exact .inl (List.drop_eq_nil_of_le hl)
  rw [if_neg (by omega)]
  rcases h with h | ⟨g', o', e, hc'⟩
  · subst h; simp at hl
  injection e with e
  injection e with e1 e2
  subst e1 e2
  refine .inr ⟨g, o + j * 4, rfl, fun i hi => ?_⟩
  rw [List.length_drop] at hi
  rw [List.getElem_drop]
  have := hc' (j + i) (by omega)
  rw [show o + (j + i) * 4 = o + j * 4 + i * 4 by omega] at this
  exact this
theorem only {P G : Prop} (_ : P) (h : G) : G := h
theorem run_drop (g o n k j : Nat) (hj : j < n) (hk : n ≤ k) (hn : n ≤ 1000000) (W : World) : (Instr.slice 22 (.slice (some ⟨g, o, none⟩) n k) (some (.int .i64 ((j : Int) + 1))) none none).run Tryz.prog W = .ok (.slice (if k = j + 1 then some ⟨g, o, none⟩ else some ⟨g, o + (j + 1) * 4, none⟩) (n - (j + 1)) (k - (j + 1))) W := by
  have h1 : (0 : Int) ≤ (j : Int) + 1 := by omega
  have h2 : (j : Int) + 1 ≤ (n : Int) := by omega
  have h3 : ((j : Int) + 1).toNat = j + 1 := by omega
  have hz := Tryz.sizeOf83
  by_cases hkj : k = j + 1
  · have : n = j + 1 := by omega
    subst this; subst hkj
    simp [Instr.slice, Instr.sliceBounds, Instr.sliceBound, run_underlying Tryz.underlying22, asIntOf, go_sem, h1, h2, h3]
  · have h4 : k - (j + 1) ≠ 0 := by omega
    simp [Instr.slice, Instr.sliceBounds, Instr.sliceBound, run_underlying Tryz.underlying22, asIntOf, go_sem, h1, h2, h3, hkj, h4]
/-- The boxes of a sum and of the sum that is told. -/
def Dw (w : World) (c : Pt) (A : Option Addr) (n k : Nat) : World := (w.alloc (.cells #[.slice A n k, .bool c.s, .slice c.A c.xs.length c.a, .slice c.B c.ys.length c.b] 27)).alloc (.cells zP 27)
theorem Dw.start (w : World) (c : Pt) (A : Option Addr) (n k : Nat) {W : World} (hb : Below (Dw w c A n k).heap.size (Dw w c A n k) W) : C4 w.heap.size (.slice A n k) (.bool c.s) (.slice c.A c.xs.length c.a) (.slice c.B c.ys.length c.b) W ∧ Bk (w.heap.size + 1) zP 27 W ∧ Below w.heap.size w W := by
  have h1 : Bk w.heap.size #[.slice A n k, .bool c.s, .slice c.A c.xs.length c.a, .slice c.B c.ys.length c.b] 27 (Dw w c A n k) := (Bk.new _ _ w).al _
  have h2 : Bk (w.heap.size + 1) zP 27 (Dw w c A n k) := Bk.new1 _ _ w _
  exact ⟨(C4.of h1).next hb, h2.next hb, bl_trans (bl_al (bl_al (.refl _ _) _) _) hb⟩
/-- The sum told is stored: an error alone. -/
theorem pno_done {w W : World} {g : Nat} (k : Nat) (hbw : Below w.heap.size w W) (hg : w.heap.size ≤ g) (a b c d : Value) :
    PNo k w (.returned (.tuple #[.agg #[.slice none 0 0, .bool false, .slice none 0 0, .slice none 0 0], .int .i64 (k : Int)])) ((((W.setCell ⟨g, 0, none⟩ a).setCell ⟨g, 1, none⟩ b).setCell ⟨g, 2, none⟩ c).setCell ⟨g, 3, none⟩ d) :=
  ⟨rfl, hbw.trans ((off4 g W a b c d).below hbw.size (fun b hb => by simp at hb; omega))⟩

set_option maxHeartbeats 4000000 in
/-- linear.Solve, where there is no such part, or no sum. -/
theorem lsolve_no (A : Option Addr) (l : List Pt) (k : Nat) (c : Pt) (id : Int) (w : World) (hl : Pl w A l) (hc : c.At w) (fl : ∀ p ∈ l, p.Few) (fc : c.Few) (hn : l.length ≤ 1000) (hno : (pvB (-1) l && c.ok) = false ∨ ∀ p ∈ l, p.t ≠ id) :
    Calls Tryz.prog 16 #[polyV A l.length k c, .int .i64 id] w (PNo 1 w) := by
  obtain ⟨v, hv⟩ : ∃ v, (pvB (-1) l && c.ok) = v := ⟨_, rfl⟩
  have hF := hide (fun W (b : Below w.heap.size w W) => find_p A l k c id W (hl.next b) (by omega))
  have hV := hide (fun W (b : Below w.heap.size w W) => lvalid_any A l k c W (hl.next b) (hc.next b) fl fc hn v hv)
  have hst := hide (fun W (b : Below (Dw w c A l.length k).heap.size (Dw w c A l.length k) W) => Dw.start w c A l.length k b)
  have hb0 : Below w.heap.size w (Dw w c A l.length k) := bl_al (bl_al (.refl _ _) _) _
  have hbz := hide (hst.out _ (Below.refl _ _))
  rw [hv] at hno
  clear hl hc fl fc hv
  obtain ⟨n, hnn⟩ : ∃ n, n = l.length := ⟨_, rfl⟩
  unfold polyV at *
  unfold Dw zP at hb0 hst hbz
  rw [← hnn] at hF hV hst hb0 hbz hn ⊢
  replace hst := hide hst.out
  replace hb0 := hide hb0
  replace hnn := hide hnn
  generalize c.xs.length = i1 at *
  generalize c.ys.length = i2 at *
  obtain ⟨⟨x0, x1, x2, x3⟩, _⟩ := hbz.out
  have hF2 : ∀ W, Below w.heap.size w W → Calls Tryz.prog 60 #[.agg #[.slice A n k, .bool c.s, .slice c.A i1 c.a, .slice c.B i2 c.b], .int .i64 id] W fun e w' => ∃ (j : Nat) (b : Bool), e = .returned (.tuple #[.int .i64 (j : Int), .bool b]) ∧ (b = true → v = false) ∧ Below W.heap.size W w' := fun W b => (hF.out W b).mono fun e w' ⟨j, b, h1, h2, h3, h4⟩ => ⟨j, b, h1, fun hb => by
    rcases hno with h | h
    · exact h
    · obtain ⟨h5, h6⟩ := h2 hb
      exact absurd h6 (h _ (List.getElem_mem h5)), h4⟩
  replace hF2 := hide hF2
  clear hF hno
  have hfin := hide (fun W (b : Below w.heap.size w W) x0 x1 x2 x3 => pno_done (g := w.heap.size + 1) 1 b (by omega) x0 x1 x2 x3)
  go_enter Tryz.func16, Tryz.ntmps16
  go_wp2_with (first
    | (go_at_call 60; (with_reducible refine (hF2.out _ hb0.out).mono ?_); rintro e w1 ⟨j, b, rfl, hbv, hb⟩; clear x0 x1 x2 x3; obtain ⟨⟨x0, x1, x2, x3⟩, hR, hbw⟩ := hst.out w1 hb; replace hbw := hide hbw; have r0 := hR.cell (j := 0) rfl; have r1 := hR.cell (j := 1) rfl; have r2 := hR.cell (j := 2) rfl; have r3 := hR.cell (j := 3) rfl; have s0 := hR.free 0; have s1 := hR.free 1; have s2 := hR.free 2; have s3 := hR.free 3; clear hR; replace hb := hide hb; cases b <;> replace hbv := hide hbv)
    | (go_at_call 25; (with_reducible refine (hV.out _ hbw.out).mono ?_); rintro e w2 ⟨rfl, hb2⟩; clear x0 x1 x2 x3 r0 r1 r2 r3 s0 s1 s2 s3; obtain ⟨⟨x0, x1, x2, x3⟩, hR, hbw⟩ := hst.out w2 (bl_trans hb.out hb2); replace hbw := hide hbw; have r0 := hR.cell (j := 0) rfl; have r1 := hR.cell (j := 1) rfl; have r2 := hR.cell (j := 2) rfl; have r3 := hR.cell (j := 3) rfl; have s0 := hR.free 0; have s1 := hR.free 1; have s2 := hR.free 2; have s3 := hR.free 3; clear hR hb2; obtain rfl : v = false := hbv.out (by trivial)))
  all_goals exact bodyPost_ret (v := .tuple #[.agg #[.slice none 0 0, .bool false, .slice none 0 0, .slice none 0 0], .int .i64 1]) (by simp [results, Tryz.results16, go_sem, r0, r1, r2, r3]) rfl (hfin.out _ hbw.out _ _ _ _)

theorem rvB_ne {t : Int} {l : List (Rat × Int)} (h : rvB t l) {x : Rat × Int} (hx : x ∈ l) : x.1 ≠ 0 := by
  induction l generalizing t with
  | nil => simp at hx
  | cons y l ih =>
    rcases List.mem_cons.1 hx with rfl | hx
    · exact h.2.1
    · exact ih h.2.2 hx
theorem c3_set {g : Nat} {W : World} {t : TypeId} (h : Bk g zR t W) (a b c : Value) : C3 g a b c (((W.setCell ⟨g, 0, none⟩ a).setCell ⟨g, 1, none⟩ b).setCell ⟨g, 2, none⟩ c) := by
  have h1 := h.set (j := 0) (cur' := #[a, .slice none 0 0, .slice none 0 0]) a rfl
  have h2 := h1.set (j := 1) (cur' := #[a, b, .slice none 0 0]) b rfl
  exact C3.of (h2.set (j := 2) (cur' := #[a, b, c]) c rfl)
theorem c4_set {g : Nat} {W : World} {t : TypeId} (h : Bk g zP t W) (a b c d : Value) : C4 g a b c d ((((W.setCell ⟨g, 0, none⟩ a).setCell ⟨g, 1, none⟩ b).setCell ⟨g, 2, none⟩ c).setCell ⟨g, 3, none⟩ d) := by
  have h1 := h.set (j := 0) (cur' := #[a, .bool false, .slice none 0 0, .slice none 0 0]) a rfl
  have h2 := h1.set (j := 1) (cur' := #[a, b, .slice none 0 0, .slice none 0 0]) b rfl
  have h3 := h2.set (j := 2) (cur' := #[a, b, c, .slice none 0 0]) c rfl
  exact C4.of (h3.set (j := 3) (cur' := #[a, b, c, d]) d rfl)
/-- Behind Solve's first drawn region: the number by which it goes, in a box of its own. -/
structure Vx (w : World) (c : Pt) (A : Option Addr) (n k : Nat) (q : Rat) (gb : Nat) (r : Pt) (W : World) : Prop where
  b : Below w.heap.size w W
  x : C4 w.heap.size (.slice A n k) (.bool c.s) (.slice c.A c.xs.length c.a) (.slice c.B c.ys.length c.b) W
  z : Bk (w.heap.size + 1) zP 27 W
  cr : C3 gb (.bool r.s) (.slice r.A r.xs.length r.a) (.slice r.B r.ys.length r.b) W
  q : r.q = q
  ok : r.Ok
  at_ : r.At W
theorem Vx.next {w : World} {c : Pt} {A : Option Addr} {n k : Nat} {q : Rat} {gb : Nat} {r : Pt} {W W' : World} (h : Vx w c A n k q gb r W) (hb : Below W.heap.size W W') : Vx w c A n k q gb r W' :=
  ⟨bl_trans h.b hb, h.x.next hb, h.z.next hb, h.cr.next hb, h.q, h.ok, h.at_.next hb⟩
set_option maxHeartbeats 8000000 in
/-- linear.Solve, of what may be, and a term that is there. -/
theorem lsolve_ok (A : Option Addr) (l : List Pt) (k : Nat) (c : Pt) (w : World) (hl : Pl w A l) (hc : c.At w) (fl : ∀ p ∈ l, p.Ok) (fc : c.Ok) (hv : pvB (-1) l = true) (hn : l.length ≤ 1000) (hk : l.length ≤ k) (hk2 : k ≤ maxLen) (j : Nat) (hj : j < l.length) :
    Calls Tryz.prog 16 #[polyV A l.length k c, .int .i64 l[j].t] w (ScO w (scB (-1 / l[j].q) (l.take j ++ l.drop (j + 1)) c) (scL (-1 / l[j].q) (l.take j ++ l.drop (j + 1))) (c.q * (-1 / l[j].q))) := by
  have hlt := @pvB_lt (-1) l hv
  have h0 : l[j].q ≠ 0 := by
    have := (pvB_rvB fl (-1)).1 hv
    have h2 := rvB_ne this (x := l[j].qt) (List.mem_map_of_mem (List.getElem_mem hj))
    exact h2
  have hF : ∀ W, Below w.heap.size w W → Calls Tryz.prog 60 #[polyV A l.length k c, .int .i64 l[j].t] W fun e w' => e = .returned (.tuple #[.int .i64 (j : Int), .bool true]) ∧ Below W.heap.size W w' := fun W b => (find_p A l k c l[j].t W (hl.next b) (by omega)).mono fun e w' ⟨i, b, h1, h2, h3, h4⟩ => by
    cases b with
    | false => exact absurd rfl (h3 rfl (-1) hv l[j] (List.getElem_mem hj))
    | true =>
      obtain ⟨hi, he⟩ := h2 rfl
      have : i = j := by
        rcases Nat.lt_trichotomy i j with h | h | h
        · have := hlt h hj; omega
        · exact h
        · have := hlt h hi; omega
      subst this
      exact ⟨h1, h4⟩
  replace hF := hide hF
  have hV := hide (fun W (b : Below w.heap.size w W) => lvalid_any A l k c W (hl.next b) (hc.next b) (fun p hp => (fl p hp).few) fc.few hn true (by rw [hv, fc.valid]; rfl))
  have hO := hide (fun W => of_m1 W)
  obtain ⟨q, hq⟩ : ∃ q, q = -1 / l[j].q := ⟨_, rfl⟩
  have hQ := hide (fun (r : Pt) (h1 : r.q = -1) (h2 : r.Ok) W (hr : r.At W) (b : Below w.heap.size w W) => (show Calls Tryz.prog 61 #[rv r, rv l[j]] W (NewQ q r.t W) from by
    obtain ⟨_, _, _, _, h5⟩ := (hl.next b).get hj
    have := quo_p h2 (fl _ (List.getElem_mem hj)) W hr h5 h0 (by rw [h1]; exact fit_m1div (fl _ (List.getElem_mem hj)).f h0)
    rw [h1, ← hq] at this
    exact this))
  have hP := hide (fun W (b : Below w.heap.size w W) => (hl.next b).get hj)
  have hPl := hide (fun W (b : Below w.heap.size w W) => hl.next b)
  have hqne : q ≠ 0 := by rw [hq]; exact m1_div_ne h0
  have hCc := hide (fun G o B D ca cb W (h0 : W.cell? ⟨G, o, none⟩ = some (.slice B (l.take j).length ca)) h1 (hA : Pl W B (l.take j)) (hB : Pl W D (l.drop (j + 1))) => concat_p G o B D (l.take j) (l.drop (j + 1)) ca cb W h0 h1 hA hB (by rw [List.length_take, List.length_drop]; omega))
  have hS := hide (fun R kr W (r : Pt) (h1 : r.q = q) (h2 : r.Ok) (hr : r.At W) (hR : Pl W R (l.take j ++ l.drop (j + 1))) (b : Below w.heap.size w W) => (show Calls Tryz.prog 57 #[polyV R (l.take j ++ l.drop (j + 1)).length kr c, rv r] W (ScO W (scB q (l.take j ++ l.drop (j + 1)) c) (scL q (l.take j ++ l.drop (j + 1))) (c.q * q)) from by
    have := scaled_q R (l.take j ++ l.drop (j + 1)) kr c r W hR (fun p hp => fl p (by
      rcases List.mem_append.1 hp with hp | hp
      · exact List.mem_of_mem_take hp
      · exact List.mem_of_mem_drop hp)) (hc.next b) fc hr h2 (by rw [List.length_append, List.length_take, List.length_drop]; omega) (by rw [h1]; exact hqne)
    rw [h1] at this
    exact this))
  have hst := hide (fun W (b : Below (Dw w c A l.length k).heap.size (Dw w c A l.length k) W) => Dw.start w c A l.length k b)
  have hb0 : Below w.heap.size w (Dw w c A l.length k) := bl_al (bl_al (.refl _ _) _) _
  have hbz := hide (hst.out _ (Below.refl _ _))
  rw [← hq]
  have htl : (l.take j).length = j := by rw [List.length_take]; omega
  have hdl : (l.drop (j + 1)).length = l.length - (j + 1) := List.length_drop
  have hxl : (l.take j ++ l.drop (j + 1)).length = l.length - 1 := by rw [List.length_append, htl, hdl]; omega
  rw [htl, hdl] at hCc
  rw [hxl] at hS
  clear hlt h0 hqne
  replace htl := hide htl; replace hdl := hide hdl; replace hxl := hide hxl
  obtain ⟨n, hnn⟩ : ∃ n, n = l.length := ⟨_, rfl⟩
  obtain ⟨id, hid⟩ : ∃ id, id = l[j].t := ⟨_, rfl⟩
  unfold polyV rv at *
  unfold Dw zP at hb0 hst hbz
  have hjn : j < n := by omega
  rw [← hnn] at hF hV hst hb0 hbz hn hk hCc hS ⊢
  rw [← hid] at hF ⊢
  replace hst := hide hst.out
  replace hb0 := hide hb0
  replace hnn := hide hnn
  replace hid := hide hid; replace hq := hide hq
  clear hl hc fl fc hv
  generalize hi1 : c.xs.length = i1 at *
  generalize hi2 : c.ys.length = i2 at *
  replace hi1 := hide hi1; replace hi2 := hide hi2
  obtain ⟨⟨x0, x1, x2, x3⟩, _⟩ := hbz.out
  go_enter Tryz.func16, Tryz.ntmps16
  go_wp2_with (first
    | (go_at_call 60; (with_reducible refine (hF.out _ hb0.out).mono ?_); rintro e w1 ⟨rfl, hb⟩; clear x0 x1 x2 x3; obtain ⟨⟨x0, x1, x2, x3⟩, hR, hbw⟩ := hst.out w1 hb; replace hbw := hide hbw; clear hR; replace hb := hide hb)
    | (go_at_call 25; (with_reducible refine (hV.out _ hbw.out).mono ?_); rintro e w2 ⟨rfl, hb2⟩; clear x0 x1 x2 x3; obtain ⟨⟨x0, x1, x2, x3⟩, hR, hbw2⟩ := hst.out w2 (bl_trans hb.out hb2); replace hbw2 := hide hbw2; replace hR := hide hR; replace hb := hide (bl_trans hb.out hb2); clear hb2 hbw))
  obtain ⟨g, o, rfl, ⟨c0, c1, c2, c3⟩, hat0⟩ := hP.out w2 hbw2.out
  have hX6 := hide (fun W (b : Below w2.heap.size w2 W) => (show (C4 w.heap.size (.slice (some ⟨g, o, none⟩) n k) (.bool c.s) (.slice c.A i1 c.a) (.slice c.B i2 c.b) W ∧ Bk (w.heap.size + 1) zP 27 W) ∧ Below w.heap.size w W from ⟨⟨C4.next (w := w2) ⟨x0, x1, x2, x3⟩ b, hR.out.next b⟩, bl_trans hbw2.out b⟩))
  have hS6 := hide (fun W (b : Below w2.heap.size w2 W) => And.intro (cell_next b x0) (And.intro (cell_next b c0) (And.intro (cell_next b c1) (cell_next b c2))))
  have hQ := hide (fun (r : Pt) (h1 : r.q = -1) (h2 : r.Ok) W (hr : r.At W) (b : Below w2.heap.size w2 W) => hQ.out r h1 h2 W hr (bl_trans hbw2.out b))
  have bd1 : Below w2.heap.size w2 w2.drew := ((Off.refl [] w2).drew).below (Nat.le_refl _) (by simp)
  have hQ1 : Q3 w2.heap.size (.bool false) (.slice none 0 0) (.slice none 0 0) ((w2.alloc (.cells #[.bool false, .slice none 0 0, .slice none 0 0] 25)).drew) := (Q3.new _ _ _ w2).next (((Off.refl [] _).drew).below (Nat.le_refl _) (by simp))
  have hZ1 : Bk w2.heap.size zR 25 ((w2.alloc (.cells #[.bool false, .slice none 0 0, .slice none 0 0] 25)).drew) := Bk.next (w := w2.alloc (.cells #[.bool false, .slice none 0 0, .slice none 0 0] 25)) (Bk.new zR 25 w2) (((Off.refl [] _).drew).below (Nat.le_refl _) (by simp))
  have ka : Below w2.heap.size w2 ((w2.alloc (.cells #[.bool false, .slice none 0 0, .slice none 0 0] 25)).drew) := (bl_al (.refl _ _) _ : Below w2.heap.size w2 (w2.alloc (.cells #[.bool false, .slice none 0 0, .slice none 0 0] 25))).trans (((Off.refl [] (w2.alloc (.cells #[.bool false, .slice none 0 0, .slice none 0 0] 25))).drew).below (by simp) (by simp))
  replace hQ1 := hide hQ1; replace hZ1 := hide hZ1
  have hlw := hbw2.out.size
  clear hP hat0 hF hV hst hb0 hbz hb
  generalize l[j] = pj at *
  generalize hj1 : pj.xs.length = j1 at *
  generalize hj2 : pj.ys.length = j2 at *
  clear hj1 hj2
  go_cut [8, 9] (fun s8 s9 wx => ∃ (gb : Nat) (r : Pt), s8 = .pointer (some ⟨gb, 0, none⟩) ∧ s9 = .int .i64 0 ∧ C3 gb (.bool r.s) (.slice r.A r.xs.length r.a) (.slice r.B r.ys.length r.b) wx ∧ r.q = q ∧ r.Ok ∧ r.At wx ∧ Below w2.heap.size w2 wx)
  case first =>
    go_region_held3 (fun W => W.cell? ⟨w.heap.size, 0, none⟩ = some (.slice (some ⟨g, o, none⟩) n k) ∧ W.cell? ⟨g, o + j * 4, none⟩ = some (.bool pj.s) ∧ W.cell? ⟨g, o + j * 4 + 1, none⟩ = some (.slice pj.A j1 pj.a) ∧ W.cell? ⟨g, o + j * 4 + 2, none⟩ = some (.slice pj.B j2 pj.b))
      (first | (with_reducible exact hS6.out _ bd1) | (with_reducible exact hS6.out _ ka) | (with_reducible exact hS6.out _ bd2) | (with_reducible exact hS6.out _ (bl_al bd2 _)) | (with_reducible exact hS6.out _ bd3) | (with_reducible exact hS6.out _ (bl_al bd3 _)) | exact hS6.out _ (bd3.trans ((off3 _ _ _ _ _).below bd3.size (fun b hb => by simp at hb; omega))) | fail)
      (first
        | (go_at_call 62; (with_reducible refine (hO.out w2.drew).mono ?_); rintro e wa ⟨r1, rfl, hr1, hk1, ha1, hb3⟩; have bd2 := bl_trans bd1 hb3; have hle2 := bd2.size; have hQ1 := hide (Q3.new (.bool false) (.slice none 0 0) (.slice none 0 0) wa); have hZ1 := hide (Bk.new zR 25 wa); unfold zR at hZ1; clear hb3)
        | (go_at_call 62; (with_reducible refine (hO.out _).mono ?_); rintro e wa ⟨r1, rfl, hr1, hk1, ha1, hb3⟩; have bd2 := bl_trans ka hb3; have hle2 := bd2.size; have hZ2 := hide (hZ1.out.next hb3); have hQ2 := hide (hQ1.out.next hb3); clear hb3)
        | (go_at_call 61; refine only hZ2 ?_; (with_reducible refine (hQ.out r1 hr1 hk1 wa ha1 bd2).mono ?_); rintro e wb ⟨r, rfl, hr, _, hk2, ha2, hb4⟩; have bd3 := bl_trans bd2 hb4; obtain ⟨v1, v2, v3, v4, v5, v6⟩ := hQ2.out.next hb4; have hZ3 := hide (hZ2.out.next hb4))
        | (go_at_call 61; (with_reducible refine (hQ.out r1 hr1 hk1 wa ha1 bd2).mono ?_); rintro e wb ⟨r, rfl, hr, _, hk2, ha2, hb4⟩; have bd3 := bl_trans bd2 hb4)
        | (go_at_call 61; (with_reducible refine (hQ.out r1 hr1 hk1 _ (ha1.next (bl_al (.refl _ _) _)) (bl_al bd2 _)).mono ?_); rintro e wb ⟨r, rfl, hr, _, hk2, ha2, hb4⟩; have bd3 := bl_trans (bl_al bd2 _) hb4; obtain ⟨v1, v2, v3, v4, v5, v6⟩ := hQ1.out.next hb4; have hZ3 := hide (hZ1.out.next hb4))
        | fail)
    all_goals
      go_wp2_with fail
      go_meet
      first
        | with_reducible refine ⟨wb.heap.size, r, rfl, rfl, ?_⟩
          exact ⟨C3.of (Bk.new _ _ wb), hr, hk2, ha2.next (bl_al (.refl _ _) _), bl_al bd3 _⟩
        | with_reducible refine ⟨wa.heap.size, r, rfl, rfl, ?_⟩
          exact ⟨c3_set hZ3.out _ _ _, hr, hk2, at_offR hZ3.out ha2 (off3 _ _ _ _ _), bd3.trans ((off3 _ _ _ _ _).below bd3.size (fun b hb => by simp at hb; omega))⟩
        | with_reducible refine ⟨w2.heap.size, r, rfl, rfl, ?_⟩
          exact ⟨c3_set hZ3.out _ _ _, hr, hk2, at_offR hZ3.out ha2 (off3 _ _ _ _ _), bd3.trans ((off3 _ _ _ _ _).below bd3.size (fun b hb => by simp at hb; omega))⟩
        | fail
  case rest =>
    obtain ⟨gb, r, rfl, rfl, hcr, hrq, hrk, hra, hbx⟩ := hcut
    obtain ⟨⟨⟨y0, y1, y2, y3⟩, hzx⟩, hbwx⟩ := hX6.out wc hbx
    clear x0 x1 x2 x3 c0 c1 c2 c3 hS6 hQ hQ1 hZ1 bd1 ka hO hX6 hbw2 hR
    replace hcr := hide hcr; replace hzx := hide hzx; replace hra := hide hra; replace hbwx := hide hbwx; replace hrk := hide hrk; replace hrq := hide hrq
    have hS5 := hide (fun W (b : Below wc.heap.size wc W) => And.intro (cell_next b y0) (And.intro (cell_next b y1) (And.intro (cell_next b y2) (cell_next b y3))))
    have hPl := hide (fun W (b : Below wc.heap.size wc W) => hPl.out W (bl_trans hbwx.out b))
    have bd1 : Below wc.heap.size wc wc.drew := ((Off.refl [] wc).drew).below (Nat.le_refl _) (by simp)
    have hjk' : (j : Int) ≤ (k : Int) := by omega
    have hjw : IntKind.i64.wrap ((j : Int) + 1) = (j : Int) + 1 := by rw [IntKind.wrap_i64]; omega
    obtain ⟨D, hD⟩ : ∃ D, D = (if k = j + 1 then some ⟨g, o, none⟩ else some ⟨g, o + (j + 1) * 4, none⟩ : Option Addr) := ⟨_, rfl⟩
    have hsl : ∀ W, (Instr.slice 22 (.slice (some ⟨g, o, none⟩) n k) (some (.int .i64 ((j : Int) + 1))) none none).run Tryz.prog W = .ok (.slice D (n - (j + 1)) (k - (j + 1))) W := fun W => by
      rw [hD]
      exact run_drop g o n k j hjn hk (by omega) W
    have hPD := hide (fun W (b : Below wc.heap.size wc W) => (show Pl W (some ⟨g, o, none⟩) (l.take j) ∧ Pl W D (l.drop (j + 1)) from ⟨(hPl.out W b).take j, by
      rw [hD]
      exact (hPl.out W b).drop (j + 1) (by rw [← hnn.out]; exact hk)⟩))
    clear hD hPl
    have dn : ∀ u : World, Below u.heap.size u u.drew := fun u => ((Off.refl [] u).drew).below (Nat.le_refl _) (by simp)
    have ka1 : ∀ x, Below wc.heap.size wc ((wc.alloc x).drew) := fun x => bl_trans (bl_al (.refl _ _) x) (dn _)
    have ka2 : ∀ x y, Below wc.heap.size wc (((wc.alloc x).alloc y).drew) := fun x y => bl_trans (bl_al (bl_al (.refl _ _) x) y) (dn _)
    have R1 := hide (Bk.next (Bk.new #[.slice (some ⟨g, o, none⟩) j k, .slice D (n - (j + 1)) (k - (j + 1))] 22 wc) (dn _))
    have R2 := hide (fun y => Bk.next ((Bk.new #[.slice (some ⟨g, o, none⟩) j k, .slice D (n - (j + 1)) (k - (j + 1))] 22 wc).al y) (dn _))
    have R3 := hide (fun x => Bk.next (Bk.new1 #[.slice (some ⟨g, o, none⟩) j k, .slice D (n - (j + 1)) (k - (j + 1))] 22 wc x) (dn _))
    have Z2 := hide (fun x => Bk.next (Bk.new1 zP 27 wc x) (dn _))
    have Z3 := hide (fun y => Bk.next ((Bk.new zP 27 wc).al y) (dn _))
    have hCc2 : ∀ G o B D ca cb W (h0 : W.cell? ⟨G, o, none⟩ = some (.slice B j ca)) (h1 : W.cell? ⟨G, o + 1, none⟩ = some (.slice D (n - (j + 1)) cb)) (hA : Pl W B (l.take j)) (hB : Pl W D (l.drop (j + 1))), Calls Tryz.prog 63 #[.slice (some ⟨G, o, none⟩) 2 2] W fun e w' => ∃ R kr, e = .returned (.slice R (n - 1) kr) ∧ Pl w' R (l.take j ++ l.drop (j + 1)) ∧ Below W.heap.size W w' := fun G o B D ca cb W h0 h1 hA hB => (hCc.out G o B D ca cb W h0 h1 hA hB).mono fun e w' ⟨R, kr, h2, h3, h4⟩ => ⟨R, kr, by rw [h2, hxl.out, hnn.out], h3, h4⟩
    have K1 := hide (hCc2 wc.heap.size 0 _ _ k (k - (j + 1)) _ (R1.out.cell (j := 0) rfl) (R1.out.cell (j := 1) rfl) (hPD.out _ (ka1 _)).1 (hPD.out _ (ka1 _)).2)
    have K2 := hide (fun y => hCc2 wc.heap.size 0 _ _ k (k - (j + 1)) _ ((R2.out y).cell (j := 0) rfl) ((R2.out y).cell (j := 1) rfl) (hPD.out _ (ka2 _ _)).1 (hPD.out _ (ka2 _ _)).2)
    have K3 := hide (fun x => hCc2 (wc.heap.size + 1) 0 _ _ k (k - (j + 1)) _ ((R3.out x).cell (j := 0) rfl) ((R3.out x).cell (j := 1) rfl) (hPD.out _ (ka2 _ _)).1 (hPD.out _ (ka2 _ _)).2)
    clear hCc hCc2 R1 R2 R3 hPD
    generalize l.take j ++ l.drop (j + 1) = L at *
    unfold zP at Z2 Z3
    go_wp2_with fail
    go_cut [10] (fun s10 wx => ∃ gc R kr, s10 = .pointer (some ⟨gc, 0, none⟩) ∧ C4 gc (.slice R (n - 1) kr) (.bool c.s) (.slice c.A i1 c.a) (.slice c.B i2 c.b) wx ∧ Pl wx R L ∧ Below wc.heap.size wc wx)
    case first =>
      go_region_held3 (fun W => W.cell? ⟨w.heap.size, 0, none⟩ = some (.slice (some ⟨g, o, none⟩) n k) ∧ W.cell? ⟨w.heap.size, 1, none⟩ = some (.bool c.s) ∧ W.cell? ⟨w.heap.size, 2, none⟩ = some (.slice c.A i1 c.a) ∧ W.cell? ⟨w.heap.size, 3, none⟩ = some (.slice c.B i2 c.b))
        (first | (with_reducible exact hS5.out _ bd1) | (with_reducible exact hS5.out _ (ka1 _)) | (with_reducible exact hS5.out _ (ka2 _ _)) | (with_reducible exact hS5.out _ bd2) | (with_reducible exact hS5.out _ (bl_al bd2 _)) | exact hS5.out _ (bd2.trans ((off4 _ _ _ _ _ _).below bd2.size (fun b hb => by simp at hb; omega))) | fail)
        (first
          | (go_at_call 63; (with_reducible refine K1.out.mono ?_); rintro e wd ⟨R, kr, rfl, hPR, hb3⟩; have bd2 := bl_trans (ka1 _) hb3)
          | (go_at_call 63; (with_reducible refine (K2.out _).mono ?_); rintro e wd ⟨R, kr, rfl, hPR, hb3⟩; have bd2 := bl_trans (ka2 _ _) hb3; have hZ := (Z2.out _).next hb3; have v0 := hZ.cell (j := 0) rfl; have v1 := hZ.cell (j := 1) rfl; have v2 := hZ.cell (j := 2) rfl; have v3 := hZ.cell (j := 3) rfl; have u0 := hZ.free 0; have u1 := hZ.free 1; have u2 := hZ.free 2; have u3 := hZ.free 3; replace hZ := hide hZ)
          | (go_at_call 63; (with_reducible refine (K3.out _).mono ?_); rintro e wd ⟨R, kr, rfl, hPR, hb3⟩; have bd2 := bl_trans (ka2 _ _) hb3; have hZ := (Z3.out _).next hb3; have v0 := hZ.cell (j := 0) rfl; have v1 := hZ.cell (j := 1) rfl; have v2 := hZ.cell (j := 2) rfl; have v3 := hZ.cell (j := 3) rfl; have u0 := hZ.free 0; have u1 := hZ.free 1; have u2 := hZ.free 2; have u3 := hZ.free 3; replace hZ := hide hZ)
          | fail)
      all_goals
        go_wp2_with fail
        go_meet
        first
          | with_reducible refine ⟨wd.heap.size, R, kr, rfl, ?_⟩
            exact ⟨C4.of (Bk.new _ _ wd), hPR.next (bl_al (.refl _ _) _), bl_al bd2 _⟩
          | with_reducible refine ⟨wc.heap.size, R, kr, rfl, ?_⟩
            exact ⟨c4_set hZ.out _ _ _ _, pl_off hZ.out hPR (off4 _ _ _ _ _ _), bd2.trans ((off4 _ _ _ _ _ _).below bd2.size (fun b hb => by simp at hb; omega))⟩
          | with_reducible refine ⟨wc.heap.size + 1, R, kr, rfl, ?_⟩
            exact ⟨c4_set hZ.out _ _ _ _, pl_off hZ.out hPR (off4 _ _ _ _ _ _), bd2.trans ((off4 _ _ _ _ _ _).below bd2.size (fun b hb => by simp at hb; omega))⟩
          | fail
    case rest =>
      obtain ⟨gc, R, kr, rfl, ⟨z0, z1, z2, z3⟩, hPR, hbx2⟩ := hcut
      obtain ⟨t0, t1, t2⟩ := hcr.out.next hbx2
      have hbw3 := hide (bl_trans hbwx.out hbx2)
      have hS := hide (hS.out R kr wc r hrq.out hrk.out (hra.out.next hbx2) hPR hbw3.out)
      have hzw := hide (hzx.out.next hbx2)
      clear hcr hra hrq hrk hPR hbx2 hzx y0 y1 y2 y3 hS5 bd1 ka1 ka2 dn Z2 Z3 K1 K2 K3 hsl
      generalize scB q L c = bb at *
      generalize scL q L = LL at *
      generalize c.q * q = rr at *
      generalize hr1 : r.xs.length = r1 at *
      generalize hr2 : r.ys.length = r2 at *
      clear hr1 hr2
      go_wp2_with (first
        | (go_at_call 57; (with_reducible refine hS.out.mono ?_); rintro e w3 (⟨hs, A', k', l', c', rfl, hm, hq, hP, ha, hok, hcok, hb3, hcp⟩ | ⟨hs, rfl, hb3⟩) <;> (try unfold polyV) <;> have hX := hzw.out.next hb3 <;> have r0 := hX.cell (j := 0) rfl <;> have r1 := hX.cell (j := 1) rfl <;> have r2 := hX.cell (j := 2) rfl <;> have r3 := hX.cell (j := 3) rfl <;> have s0 := hX.free 0 <;> have s1 := hX.free 1 <;> have s2 := hX.free 2 <;> have s3 := hX.free 3 <;> replace hX := hide hX <;> have hbw4 := hide (bl_trans hbw3.out hb3) <;> clear hb3 <;> (try replace hm := hide hm) <;> (try replace hq := hide hq))
        | fail)
      · have hO4 := off4 (w.heap.size + 1) w3 (.slice A' l'.length k') (.bool c'.s) (.slice c'.A c'.xs.length c'.a) (.slice c'.B c'.ys.length c'.b)
        exact bodyPost_ret (v := .tuple #[.agg #[.slice A' l'.length k', .bool c'.s, .slice c'.A c'.xs.length c'.a, .slice c'.B c'.ys.length c'.b], .int .i64 0]) (by simp [results, Tryz.results16, go_sem, r0, r1, r2, r3]) rfl (Or.inl ⟨hs, A', k', l', c', rfl, hm.out, hq.out, pl_off hX.out hP hO4, at_off hX.out ha hO4, hok, hcok, hbw4.out.trans (hO4.below hbw4.out.size (fun b hb => by simp at hb; omega)), hcp⟩)
      · have hO4 := off4 (w.heap.size + 1) w3 (.slice none 0 0) (.bool false) (.slice none 0 0) (.slice none 0 0)
        exact bodyPost_ret (v := .tuple #[.agg #[.slice none 0 0, .bool false, .slice none 0 0, .slice none 0 0], .int .i64 4]) (by simp [results, Tryz.results16, go_sem, r0, r1, r2, r3]) rfl (Or.inr ⟨hs, rfl, hbw4.out.trans (hO4.below hbw4.out.size (fun b hb => by simp at hb; omega))⟩)
end Nt

end Go.Proofs.YtgimmmmpollkhaaGreat
