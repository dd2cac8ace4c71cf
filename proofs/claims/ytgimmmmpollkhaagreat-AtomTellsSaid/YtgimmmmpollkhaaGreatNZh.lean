
/-
  Are two numbers, two sums, two atoms the same, whatever they hold.
  The reference's sum of two sums (theodoliteref6.addPoly, AddPoly).
  The reference's sums: AddPoly; Scale of what is none; Coef, Without, Solve.
  The reference's Solve (theodoliteref6.Solve).
-/
import Derived.Test.YtgimmmmpollkhaaGreatNZd
import Derived.Test.YtgimmmmpollkhaaGreatNZv
namespace Go.Proofs.YtgimmmmpollkhaaGreat

open Go.ChangeShapes Go.RowKit

namespace Nt
set_option maxRecDepth 100000
set_option linter.unusedSimpArgs false
set_option linter.unusedVariables false

def Pt.cn (p : Pt) : Bool × List Nat × List Nat := (p.s, p.xs, p.ys)
def Pt.raw (p : Pt) : (Bool × List Nat × List Nat) × Int := (p.cn, p.t)
theorem cn_iff (p r : Pt) : ((p.s == r.s) && (decide (p.xs = r.xs) && decide (p.ys = r.ys))) = decide (p.cn = r.cn) := by
  rw [Bool.eq_iff_iff]
  simp [Pt.cn, Prod.ext_iff]
theorem sameRat_r {p r : Pt} (hp : p.Few) (hr : r.Few) (w : World) (aP : p.At w) (aR : r.At w) (b : Bool) (hb : decide (p.cn = r.cn) = b) : Calls Tryz.prog 74 #[rv p, rv r] w fun e w' => e = .returned (.bool b) ∧ Below w.heap.size w w' := by
  rw [← cn_iff p r] at hb
  rw [← hb]
  exact sameRat_any p r w aP aR hp hr _ _ _ rfl rfl rfl
theorem rsame_r {p r : Pt} (hp : p.Few) (hr : r.Few) (w : World) (aP : p.At w) (aR : r.At w) (b : Bool) (hb : decide (p.cn = r.cn) = b) : Calls Tryz.prog 24 #[rv p, rv r] w fun e w' => e = .returned (.bool b) ∧ Below w.heap.size w w' :=
  Same_any p.s r.s p.A p.B r.A r.B p.a p.b r.a r.b _ _ _ _ p.xs p.ys r.xs r.ys w aP.1 aP.2 aR.1 aR.2 rfl rfl rfl rfl hp.mx hp.my hr.mx hr.my b (by
    rw [← hb]
    exact decide_eq_decide.2 (by simp [Pt.cn, Prod.ext_iff]))
set_option maxHeartbeats 4000000 in
theorem samePart_r {p r : Pt} (hp : p.Few) (hr : r.Few) (w : World) (aP : p.At w) (aR : r.At w) (b : Bool) (hb : decide (p.raw = r.raw) = b) : Calls Tryz.prog 73 #[pv p, pv r] w fun e w' => e = .returned (.bool b) ∧ Below w.heap.size w w' := by
  obtain ⟨b1, h1⟩ : ∃ b, decide (p.t = r.t) = b := ⟨_, rfl⟩
  obtain ⟨b2, h2⟩ : ∃ b, decide (p.cn = r.cn) = b := ⟨_, rfl⟩
  have hbb : b = (b1 && b2) := by
    rw [← hb, ← h1, ← h2, Bool.eq_iff_iff]
    simp [Pt.raw, and_comm]
  subst hbb
  have hS := hide (fun W (b : Below w.heap.size w W) => sameRat_r hp hr W (aP.next b) (aR.next b) b2 h2)
  have q1 := (show binOp .eql 3 (.int .i64 p.t) (.int .i64 r.t) = pure (.bool b1) by subst h1; rfl)
  clear hp hr aP aR h1 h2 hb
  unfold pv
  unfold rv at hS
  generalize p.xs.length = i1 at *
  generalize p.ys.length = i2 at *
  generalize r.xs.length = j1 at *
  generalize r.ys.length = j2 at *
  have hb : Below w.heap.size w ((w.alloc (.cells #[.bool p.s, .slice p.A i1 p.a, .slice p.B i2 p.b, .int .i64 p.t] 83)).alloc (.cells #[.bool r.s, .slice r.A j1 r.a, .slice r.B j2 r.b, .int .i64 r.t] 83)) := bl_al (bl_al (.refl _ _) _) _
  obtain ⟨x0, x1, x2, x3⟩ : C4 w.heap.size (.bool p.s) (.slice p.A i1 p.a) (.slice p.B i2 p.b) (.int .i64 p.t) ((w.alloc (.cells #[.bool p.s, .slice p.A i1 p.a, .slice p.B i2 p.b, .int .i64 p.t] 83)).alloc (.cells #[.bool r.s, .slice r.A j1 r.a, .slice r.B j2 r.b, .int .i64 r.t] 83)) := C4.of ((Bk.new _ _ w).al _)
  obtain ⟨y0, y1, y2, y3⟩ : C4 (w.heap.size + 1) (.bool r.s) (.slice r.A j1 r.a) (.slice r.B j2 r.b) (.int .i64 r.t) ((w.alloc (.cells #[.bool p.s, .slice p.A i1 p.a, .slice p.B i2 p.b, .int .i64 p.t] 83)).alloc (.cells #[.bool r.s, .slice r.A j1 r.a, .slice r.B j2 r.b, .int .i64 r.t] 83)) := C4.of (Bk.new1 _ _ w _)
  replace hb := hide hb
  cases b1 with
  | false =>
    go_enter Tryz.func73, Tryz.ntmps73
    go_wp2_with fail
    go_ret
    exact ⟨rfl, hb.out⟩
  | true =>
    go_enter Tryz.func73, Tryz.ntmps73
    go_wp2_with (go_at_call 74; (with_reducible refine (hS.out _ hb.out).mono ?_); rintro e w1 ⟨rfl, hb1⟩; replace hb1 := hide hb1)
    go_ret
    exact ⟨rfl, bl_trans hb.out hb1.out⟩
theorem raw_at {l m : List Pt} {i : Nat} (hx : i < l.length) (hy : i < m.length) (h : (l.take i).map Pt.raw = (m.take i).map Pt.raw) : ((l.take (i + 1)).map Pt.raw = (m.take (i + 1)).map Pt.raw) ↔ l[i].raw = m[i].raw := by
  rw [take_part hx, take_part hy, List.map_append, List.map_append, h]
  exact ⟨fun e => by have := List.append_cancel_left e; injection this, fun e => by show _ ++ [_] = _ ++ [_]; rw [e]⟩
set_option maxHeartbeats 8000000 in
theorem equalF_r (A B : Option Addr) (c d : Nat) (l m : List Pt) (w : World) (hl : Pl w A l) (hm : Pl w B m) (fl : ∀ p ∈ l, p.Few) (fm : ∀ p ∈ m, p.Few) (nl : l.length ≤ 1000000) (nm : m.length ≤ 1000000) (r : Bool) (hr : decide (l.map Pt.raw = m.map Pt.raw) = r) :
    Calls Tryz.prog 72 #[.slice A l.length c, .slice B m.length d, .func (.func 73) #[] #[]] w fun e w' => e = .returned (.bool r) ∧ Below w.heap.size w w' := by
  subst hr
  by_cases hlm : l.length = m.length
  · have hS := hide (fun (p r : Pt) (hp : p ∈ l) (hr : r ∈ m) W (a1 : p.At W) (a2 : r.At W) => samePart_r (fl p hp) (fm r hr) W a1 a2)
    have hP := hide (fun W (b : Below w.heap.size w W) => Pl.next hl b)
    have hQ := hide (fun W (b : Below w.heap.size w W) => Pl.next hm b)
    have ht : l.take l.length = l := List.take_length
    have ht' : m.take l.length = m := by rw [hlm]; exact List.take_length
    obtain ⟨n, hn⟩ : ∃ n, n = l.length := ⟨_, rfl⟩
    rw [← hlm, ← hn]
    rw [← hn] at nl ht ht' hlm
    have hl' := hide hlm
    have hn' := hide hn
    replace ht := hide ht; replace ht' := hide ht'
    clear hlm hn hl hm nm fl fm
    go_enter Tryz.func72, Tryz.ntmps72
    go_wp2_with fail
    go_loopw [17] (fun ix wr => ∃ i : Nat, i ≤ n ∧ ix = .int .i64 (i : Int) ∧ Below w.heap.size w wr ∧ (l.take i).map Pt.raw = (m.take i).map Pt.raw) (fun ix _ => n - (intOf ix).toNat)
    case atStart => exact ⟨0, Nat.zero_le _, rfl, .refl _ _, rfl⟩
    case round =>
      obtain ⟨i, hi, rfl, hbw, htk⟩ := hrel
      by_cases hlt : i < n
      · have h1 : i < l.length := by rw [← hn'.out]; exact hlt
        have h2 : i < m.length := by rw [← hl'.out]; exact hlt
        have hiff := raw_at h1 h2 htk
        obtain ⟨g1, o1, rfl, ⟨x0, x1, x2, x3⟩, a1⟩ := (hP.out wr hbw).get h1
        obtain ⟨g2, o2, rfl, ⟨y0, y1, y2, y3⟩, a2⟩ := (hQ.out wr hbw).get h2
        have hb2 : Below wr.heap.size wr ((wr.alloc (.cells #[.bool l[i].s, .slice l[i].A l[i].xs.length l[i].a, .slice l[i].B l[i].ys.length l[i].b, .int .i64 l[i].t] 83)).alloc (.cells #[.bool m[i].s, .slice m[i].A m[i].xs.length m[i].a, .slice m[i].B m[i].ys.length m[i].b, .int .i64 m[i].t] 83)) := bl_al (bl_al (.refl _ _) _) _
        obtain ⟨b, hb⟩ : ∃ b, decide (l[i].raw = m[i].raw) = b := ⟨_, rfl⟩
        have hS := hS.out l[i] m[i] (List.getElem_mem h1) (List.getElem_mem h2) _ (a1.next hb2) (a2.next hb2) b hb
        have hy1 : Below wr.heap.size wr (wr.alloc (.cells #[.bool l[i].s, .slice l[i].A l[i].xs.length l[i].a, .slice l[i].B l[i].ys.length l[i].b, .int .i64 l[i].t] 83)) := bl_al (.refl _ _) _
        have z0 := cell_next hy1 y0
        have z1 := cell_next hy1 y1
        have z2 := cell_next hy1 y2
        have z3 := cell_next hy1 y3
        unfold pv at hS
        replace hS := hide hS; replace hiff := hide hiff; replace hb := hide hb
        clear a1 a2 hP hQ htk y0 y1 y2 y3 hy1
        generalize l[i] = p at *
        generalize m[i] = q at *
        generalize p.xs.length = i1 at *
        generalize p.ys.length = i2 at *
        generalize q.xs.length = j1 at *
        generalize q.ys.length = j2 at *
        have hlt' : (i : Int) < (n : Int) := by omega
        replace hb2 := hide hb2
        cases b with
        | false =>
          go_wp2_with (go_at_call 73; (with_reducible refine hS.out.mono ?_); rintro e wa ⟨rfl, hb3⟩; replace hb3 := hide hb3)
          have hne : ¬ l.map Pt.raw = m.map Pt.raw := fun e => by
            have := hiff.out.1 (by rw [List.map_take, List.map_take, e])
            have h := hb.out
            rw [decide_eq_true this] at h
            cases h
          go_ret
          exact ⟨by rw [decide_eq_false hne]; rfl, bl_trans hbw (bl_trans hb2.out hb3.out)⟩
        | true =>
          go_wp2_with (go_at_call 73; (with_reducible refine hS.out.mono ?_); rintro e wa ⟨rfl, hb3⟩; replace hb3 := hide hb3)
          go_roundw
          case rel => exact ⟨i + 1, hlt, by go_num, bl_trans hbw (bl_trans hb2.out hb3.out), hiff.out.2 (of_decide_eq_true hb.out)⟩
          case measure => simp only [intOf]; omega
      · have hin : i = n := by omega
        subst hin
        rw [ht.out, ht'.out] at htk
        have hd : decide (l.map Pt.raw = m.map Pt.raw) = true := decide_eq_true htk
        clear htk
        go_wp2_with fail
        go_ret
        exact ⟨by rw [hd]; rfl, hbw⟩
  · have hne : ¬ l.map Pt.raw = m.map Pt.raw := fun e => hlm (by have := congrArg List.length e; simpa using this)
    have hd : decide (l.map Pt.raw = m.map Pt.raw) = false := decide_eq_false hne
    have q1 : ((l.length : Int) != (m.length : Int)) = true := by simp; omega
    clear hl hm hne fl fm
    rw [hd]
    clear hd
    generalize l.length = n at *
    generalize m.length = k at *
    have hl2 : ¬ ((n : Int) = (k : Int)) := by omega
    go_enter Tryz.func72, Tryz.ntmps72
    go_wp2_with fail
    go_ret
    exact ⟨rfl, .refl _ _⟩
set_option maxHeartbeats 8000000 in
theorem lsame_r (A B : Option Addr) (kc kd : Nat) (l m : List Pt) (c d : Pt) (w : World) (hl : Pl w A l) (hm : Pl w B m) (fl : ∀ p ∈ l, p.Few) (fm : ∀ p ∈ m, p.Few) (hc : c.At w) (hd : d.At w) (fc : c.Few) (fd : d.Few) (nl : l.length ≤ 1000000) (nm : m.length ≤ 1000000) (b1 b2 : Bool) (h1 : decide (l.map Pt.raw = m.map Pt.raw) = b1) (h2 : decide (c.cn = d.cn) = b2) :
    Calls Tryz.prog 29 #[polyV A l.length kc c, polyV B m.length kd d] w fun e w' => e = .returned (.bool (b1 && b2)) ∧ Below w.heap.size w w' := by
  have hE := hide (fun W (b : Below w.heap.size w W) => equalF_r A B kc kd l m W (hl.next b) (hm.next b) fl fm nl nm b1 h1)
  have hS := hide (fun W (b : Below w.heap.size w W) => sameRat_r fc fd W (hc.next b) (hd.next b) b2 h2)
  clear hl hm fl fm hc hd fc fd h1 h2
  unfold polyV
  unfold rv at hS
  generalize l.length = n at *
  generalize m.length = k at *
  generalize c.xs.length = i1 at *
  generalize c.ys.length = i2 at *
  generalize d.xs.length = j1 at *
  generalize d.ys.length = j2 at *
  have hb : Below w.heap.size w ((w.alloc (.cells #[.slice A n kc, .bool c.s, .slice c.A i1 c.a, .slice c.B i2 c.b] 27)).alloc (.cells #[.slice B k kd, .bool d.s, .slice d.A j1 d.a, .slice d.B j2 d.b] 27)) := bl_al (bl_al (.refl _ _) _) _
  have hX : C4 w.heap.size (.slice A n kc) (.bool c.s) (.slice c.A i1 c.a) (.slice c.B i2 c.b) ((w.alloc (.cells #[.slice A n kc, .bool c.s, .slice c.A i1 c.a, .slice c.B i2 c.b] 27)).alloc (.cells #[.slice B k kd, .bool d.s, .slice d.A j1 d.a, .slice d.B j2 d.b] 27)) := C4.of ((Bk.new _ _ w).al _)
  have hY : C4 (w.heap.size + 1) (.slice B k kd) (.bool d.s) (.slice d.A j1 d.a) (.slice d.B j2 d.b) ((w.alloc (.cells #[.slice A n kc, .bool c.s, .slice c.A i1 c.a, .slice c.B i2 c.b] 27)).alloc (.cells #[.slice B k kd, .bool d.s, .slice d.A j1 d.a, .slice d.B j2 d.b] 27)) := C4.of (Bk.new1 _ _ w _)
  obtain ⟨x0, x1, x2, x3⟩ := hX
  obtain ⟨y0, y1, y2, y3⟩ := hY
  have hXn := hide (fun W b => C4.next (w' := W) ⟨x0, x1, x2, x3⟩ b)
  have hYn := hide (fun W b => C4.next (w' := W) ⟨y0, y1, y2, y3⟩ b)
  replace hb := hide hb
  cases b1 with
  | false =>
    go_enter Tryz.func29, Tryz.ntmps29
    go_wp2_with (go_at_call 72; (with_reducible refine (hE.out _ hb.out).mono ?_); rintro e w1 ⟨rfl, hb1⟩; replace hb1 := hide hb1)
    go_ret
    exact ⟨rfl, bl_trans hb.out hb1.out⟩
  | true =>
    go_enter Tryz.func29, Tryz.ntmps29
    go_wp2_with (first
      | (go_at_call 72; (with_reducible refine (hE.out _ hb.out).mono ?_); rintro e w1 ⟨rfl, hb1⟩; clear x0 x1 x2 x3 y0 y1 y2 y3; obtain ⟨x0, x1, x2, x3⟩ := hXn.out _ hb1; obtain ⟨y0, y1, y2, y3⟩ := hYn.out _ hb1; have hbw := hide (bl_trans hb.out hb1); clear hb1)
      | (go_at_call 74; (with_reducible refine (hS.out _ hbw.out).mono ?_); rintro e w2 ⟨rfl, hb2⟩; replace hb2 := hide hb2))
    go_ret
    exact ⟨rfl, bl_trans hbw.out hb2.out⟩
set_option maxHeartbeats 8000000 in
theorem rsamep_r (A B : Option Addr) (kc kd : Nat) (l m : List Pt) (c d : Pt) (w : World) (hl : Pl w A l) (hm : Pl w B m) (fl : ∀ p ∈ l, p.Few) (fm : ∀ p ∈ m, p.Few) (hc : c.At w) (hd : d.At w) (fc : c.Few) (fd : d.Few) (nl : l.length ≤ 1000000) (nm : m.length ≤ 1000000) (r : Bool) (hr : (decide (l.map Pt.raw = m.map Pt.raw) && decide (c.cn = d.cn)) = r) :
    Calls Tryz.prog 23 #[polyV A l.length kc c, polyV B m.length kd d] w fun e w' => e = .returned (.bool r) ∧ Below w.heap.size w w' := by
  obtain ⟨b2, h2⟩ : ∃ b, decide (c.cn = d.cn) = b := ⟨_, rfl⟩
  have hS := hide (fun W (b : Below w.heap.size w W) => rsame_r fc fd W (hc.next b) (hd.next b) b2 h2)
  have hT := hide (fun (p r : Pt) (hp : p ∈ l) (hr : r ∈ m) W (a : p.At W) (a' : r.At W) b h => rsame_r (fl p hp) (fm r hr) W a a' b h)
  have hP := hide (fun W (b : Below w.heap.size w W) => hl.next b)
  have hQ := hide (fun W (b : Below w.heap.size w W) => hm.next b)
  rw [h2] at hr
  clear hc hd fc fd h2 hl hm fl fm
  unfold polyV rv at *
  obtain ⟨n, hnn⟩ : ∃ n, n = l.length := ⟨_, rfl⟩
  obtain ⟨k, hkk⟩ : ∃ k, k = m.length := ⟨_, rfl⟩
  rw [← hnn, ← hkk]
  rw [← hnn] at nl
  rw [← hkk] at nm
  replace hnn := hide hnn
  replace hkk := hide hkk
  have hX := hide ((C4.new (.slice A n kc) (.bool c.s) (.slice c.A c.xs.length c.a) (.slice c.B c.ys.length c.b) 27 w).next (bl_al (.refl _ _) (.cells #[.slice B k kd, .bool d.s, .slice d.A d.xs.length d.a, .slice d.B d.ys.length d.b] 27)))
  have hY := hide (C4.of (Bk.new1 #[.slice B k kd, .bool d.s, .slice d.A d.xs.length d.a, .slice d.B d.ys.length d.b] 27 w (.cells #[.slice A n kc, .bool c.s, .slice c.A c.xs.length c.a, .slice c.B c.ys.length c.b] 27)))
  have hb0 := hide (bl_al (bl_al (.refl _ _) (.cells #[.slice A n kc, .bool c.s, .slice c.A c.xs.length c.a, .slice c.B c.ys.length c.b] 27)) (.cells #[.slice B k kd, .bool d.s, .slice d.A d.xs.length d.a, .slice d.B d.ys.length d.b] 27) : Below w.heap.size w _)
  generalize c.xs.length = i1 at *
  generalize c.ys.length = i2 at *
  generalize d.xs.length = i3 at *
  generalize d.ys.length = i4 at *
  obtain ⟨x0, x1, x2, x3⟩ := hX.out
  obtain ⟨y0, y1, y2, y3⟩ := hY.out
  by_cases hnk : n = k
  · subst hnk
    rcases b2 with _ | _
    · rw [Bool.and_false] at hr
      subst hr
      clear hX hY
      go_enter Tryz.func23, Tryz.ntmps23
      go_wp2_with (first
        | (go_at_call 24; (with_reducible refine (hS.out _ hb0.out).mono ?_); rintro e wa ⟨rfl, hb3⟩; replace hb3 := hide (bl_trans hb0.out hb3))
        | fail)
      go_ret
      exact ⟨rfl, hb3.out⟩
    · rw [Bool.and_true] at hr
      go_enter Tryz.func23, Tryz.ntmps23
      go_wp2_with (first
        | (go_at_call 24; (with_reducible refine (hS.out _ hb0.out).mono ?_); rintro e wa ⟨rfl, hb3⟩; clear x0 x1 x2 x3 y0 y1 y2 y3; have hX3 := hide (hX.out.next hb3); have hY3 := hide (hY.out.next hb3); replace hb3 := hide (bl_trans hb0.out hb3))
        | fail)
      clear hX hY hb0 hS
      go_loopw [5] (fun ix wr => ∃ i : Nat, i ≤ n ∧ ix = .int .i64 (i : Int) ∧ Below w.heap.size w wr ∧ C4 w.heap.size (.slice A n kc) (.bool c.s) (.slice c.A i1 c.a) (.slice c.B i2 c.b) wr ∧ C4 (w.heap.size + 1) (.slice B n kd) (.bool d.s) (.slice d.A i3 d.a) (.slice d.B i4 d.b) wr ∧ (l.take i).map Pt.raw = (m.take i).map Pt.raw) (fun ix _ => n - (intOf ix).toNat)
      case atStart => exact ⟨0, Nat.zero_le _, rfl, hb3.out, hX3.out, hY3.out, rfl⟩
      case round =>
        obtain ⟨i, hi, rfl, hbw, hCw, hDw, htk⟩ := hrel
        by_cases hlt : i < n
        · have h1 : i < l.length := by rw [← hnn.out]; exact hlt
          have h2 : i < m.length := by rw [← hkk.out]; exact hlt
          have hiff := raw_at h1 h2 htk
          obtain ⟨g1, o1, rfl, ⟨p0, p1, p2, p3⟩, a1⟩ := (hP.out wr hbw).get h1
          obtain ⟨g2, o2, rfl, ⟨r0, r1, r2, r3⟩, a2⟩ := (hQ.out wr hbw).get h2
          obtain ⟨bt, ht⟩ : ∃ b, decide (l[i].t ≠ m[i].t) = b := ⟨_, rfl⟩
          obtain ⟨bq, hq⟩ : ∃ b, decide (l[i].cn = m[i].cn) = b := ⟨_, rfl⟩
          have e1 := neq_b 3 l[i].t m[i].t bt ht
          have hqq : bt = false → bq = true → l[i].raw = m[i].raw := fun h h' => by
            rw [h] at ht
            rw [h'] at hq
            have h3 := of_decide_eq_true hq
            have h4 : l[i].t = m[i].t := by simpa using ht
            show (l[i].cn, l[i].t) = (m[i].cn, m[i].t)
            rw [h3, h4]
          have hnq : bt = true ∨ bq = false → l.map Pt.raw ≠ m.map Pt.raw := fun h e => by
            have h5 : l[i].raw = m[i].raw := hiff.1 (by rw [List.map_take, List.map_take, e])
            have h6 : l[i].cn = m[i].cn := congrArg Prod.fst h5
            have h7 : l[i].t = m[i].t := congrArg Prod.snd h5
            rcases h with h | h
            · rw [h] at ht
              exact of_decide_eq_true ht h7
            · rw [h] at hq
              exact of_decide_eq_false hq h6
          have hSm := hide (fun W (b : Below wr.heap.size wr W) => hT.out l[i] m[i] (List.getElem_mem h1) (List.getElem_mem h2) W (a1.next b) (a2.next b) bq hq)
          have hiff := hide (fun (h : bt = false ∧ bq = true) => hiff.2 (hqq h.1 h.2))
          replace hnq := hide hnq
          clear hqq hq ht htk a1 a2 hP hQ hT
          generalize l[i] = p at *
          generalize m[i] = q at *
          generalize p.xs.length = j1 at *
          generalize p.ys.length = j2 at *
          generalize q.xs.length = j3 at *
          generalize q.ys.length = j4 at *
          have hlt' : (i : Int) < (n : Int) := by omega
          have hSf := hide (fun W (b : Below wr.heap.size wr W) => (show (W.cell? ⟨w.heap.size, 0, none⟩ = some (.slice (some ⟨g1, o1, none⟩) n kc) ∧ W.cell? ⟨w.heap.size + 1, 0, none⟩ = some (.slice (some ⟨g2, o2, none⟩) n kd)) ∧ (W.cell? ⟨g1, o1 + i * 4, none⟩ = some (.bool p.s) ∧ W.cell? ⟨g1, o1 + i * 4 + 1, none⟩ = some (.slice p.A j1 p.a) ∧ W.cell? ⟨g1, o1 + i * 4 + 2, none⟩ = some (.slice p.B j2 p.b) ∧ W.cell? ⟨g1, o1 + i * 4 + 3, none⟩ = some (.int .i64 p.t)) ∧ (W.cell? ⟨g2, o2 + i * 4, none⟩ = some (.bool q.s) ∧ W.cell? ⟨g2, o2 + i * 4 + 1, none⟩ = some (.slice q.A j3 q.a) ∧ W.cell? ⟨g2, o2 + i * 4 + 2, none⟩ = some (.slice q.B j4 q.b) ∧ W.cell? ⟨g2, o2 + i * 4 + 3, none⟩ = some (.int .i64 q.t)) from
            ⟨⟨cell_next b hCw.1, cell_next b hDw.1⟩, ⟨cell_next b p0, cell_next b p1, cell_next b p2, cell_next b p3⟩, ⟨cell_next b r0, cell_next b r1, cell_next b r2, cell_next b r3⟩⟩))
          have hCw2 := hide (fun W (b : Below wr.heap.size wr W) => And.intro (hCw.next b) (hDw.next b))
          obtain ⟨x0, x1, x2, x3⟩ := hCw
          obtain ⟨y0, y1, y2, y3⟩ := hDw
          rcases bt with _ | _
          · have hn2 := hide (fun (h : bq = false) => hnq.out (.inr h))
            have hi2 := hide (fun (h : bq = true) => hiff.out ⟨rfl, h⟩)
            clear hnq hiff
            go_wp2_with fail
            have bc := ka0 wr
            go_region_held3 (fun W => (W.cell? ⟨w.heap.size, 0, none⟩ = some (.slice (some ⟨g1, o1, none⟩) n kc) ∧ W.cell? ⟨w.heap.size + 1, 0, none⟩ = some (.slice (some ⟨g2, o2, none⟩) n kd)) ∧ (W.cell? ⟨g1, o1 + i * 4, none⟩ = some (.bool p.s) ∧ W.cell? ⟨g1, o1 + i * 4 + 1, none⟩ = some (.slice p.A j1 p.a) ∧ W.cell? ⟨g1, o1 + i * 4 + 2, none⟩ = some (.slice p.B j2 p.b) ∧ W.cell? ⟨g1, o1 + i * 4 + 3, none⟩ = some (.int .i64 p.t)) ∧ (W.cell? ⟨g2, o2 + i * 4, none⟩ = some (.bool q.s) ∧ W.cell? ⟨g2, o2 + i * 4 + 1, none⟩ = some (.slice q.A j3 q.a) ∧ W.cell? ⟨g2, o2 + i * 4 + 2, none⟩ = some (.slice q.B j4 q.b) ∧ W.cell? ⟨g2, o2 + i * 4 + 3, none⟩ = some (.int .i64 q.t)))
              (first | (with_reducible exact hSf.out _ bc) | fail)
              (first
                | (go_at_call 24; (with_reducible refine (hSm.out _ bc).mono ?_); rintro e wz ⟨rfl, hb⟩; replace bc := bl_trans bc hb; clear hb)
                | fail)
            all_goals
              clear x0 x1 x2 x3 y0 y1 y2 y3 p0 p1 p2 p3 r0 r1 r2 r3
              rcases bq with _ | _
              · rw [decide_eq_false (hn2.out rfl)] at hr
                subst hr
                clear hn2 hi2
                go_wp2_with fail
                go_ret
                exact ⟨rfl, bl_trans hbw bc⟩
              · have hi3 := hide (hi2.out rfl)
                clear hn2 hi2
                go_wp2_with fail
                go_roundw
                case rel => exact ⟨i + 1, hlt, by go_num, bl_trans hbw bc, (hCw2.out _ bc).1, (hCw2.out _ bc).2, hi3.out⟩
                case measure => simp only [intOf]; omega
          · rw [decide_eq_false (hnq.out (.inl rfl))] at hr
            subst hr
            clear hSm hSf hiff hnq hCw2
            go_wp2_with fail
            have bc := hide (ka0 wr)
            go_quiet (fail)
            go_wp2_with fail
            go_ret
            exact ⟨rfl, bl_trans hbw (((Off.refl [] wr).drewN _).below (Nat.le_refl _) (by simp))⟩
        · have hin : i = n := by omega
          subst hin
          rw [hnn.out, List.take_length, ← hnn.out, hkk.out, List.take_length] at htk
          have hd : decide (l.map Pt.raw = m.map Pt.raw) = true := decide_eq_true htk
          rw [hd] at hr
          subst hr
          clear htk hd
          obtain ⟨x0, x1, x2, x3⟩ := hCw
          obtain ⟨y0, y1, y2, y3⟩ := hDw
          go_wp2_with fail
          go_ret
          exact ⟨rfl, hbw⟩
  · have e1 := neq_b 3 (n : Int) (k : Int) true (decide_eq_true (by omega))
    have q1 : ((n : Int) != (k : Int)) = true := by simp; omega
    have hne : ¬ l.map Pt.raw = m.map Pt.raw := fun e => hnk (by have := congrArg List.length e; rw [List.length_map, List.length_map] at this; rw [hnn.out, hkk.out]; exact this)
    rw [decide_eq_false hne] at hr
    subst hr
    clear hX hY hS hne hnk
    go_enter Tryz.func23, Tryz.ntmps23
    go_wp2_with fail
    go_ret
    exact ⟨rfl, hb0.out⟩
set_option maxHeartbeats 8000000 in
theorem asame_r (k k' : Int) (A B : Option Addr) (l m : List Pt) (kc kd : Nat) (c d : Pt) (a a' b b' : Int) (w : World) (hl : Pl w A l) (hm : Pl w B m) (fl : ∀ p ∈ l, p.Few) (fm : ∀ p ∈ m, p.Few) (hc : c.At w) (hd : d.At w) (fc : c.Few) (fd : d.Few) (nl : l.length ≤ 1000000) (nm : m.length ≤ 1000000) (r : Bool)
    (hr : (decide (k = k') && decide (a = a') && decide (b = b') && (decide (l.map Pt.raw = m.map Pt.raw) && decide (c.cn = d.cn))) = r) :
    Calls Tryz.prog 47 #[atomV k A l.length kc c a b, atomV k' B m.length kd d a' b'] w fun e w' => e = .returned (.bool r) ∧ Below w.heap.size w w' := by
  obtain ⟨x, hx⟩ : ∃ x, decide (k = k') = x := ⟨_, rfl⟩
  obtain ⟨y, hy⟩ : ∃ y, decide (a = a') = y := ⟨_, rfl⟩
  obtain ⟨z, hz⟩ : ∃ z, decide (b = b') = z := ⟨_, rfl⟩
  obtain ⟨v, hv⟩ : ∃ v, (decide (l.map Pt.raw = m.map Pt.raw) && decide (c.cn = d.cn)) = v := ⟨_, rfl⟩
  have e1 := eql_b 3 k k' x hx
  have e2 := eql_b 3 a a' y hy
  have e3 := eql_b 3 b b' z hz
  rw [hx, hy, hz, hv] at hr
  subst hr
  have hS := hide (fun W (b : Below w.heap.size w W) => (show Calls Tryz.prog 29 #[polyV A l.length kc c, polyV B m.length kd d] W fun e w' => e = .returned (.bool v) ∧ Below W.heap.size W w' from by
    have h := lsame_r A B kc kd l m c d W (hl.next b) (hm.next b) fl fm (hc.next b) (hd.next b) fc fd nl nm _ _ rfl rfl
    rw [hv] at h
    exact h))
  clear hl hm fl fm hc hd fc fd nl nm hx hy hz hv
  unfold atomV polyV at *
  generalize l.length = n at *
  generalize c.xs.length = i1 at *
  generalize c.ys.length = i2 at *
  generalize m.length = o at *
  generalize d.xs.length = i3 at *
  generalize d.ys.length = i4 at *
  have hX := hide ((C7.new (.int .i64 k) (.slice A n kc) (.bool c.s) (.slice c.A i1 c.a) (.slice c.B i2 c.b) (.int .i64 a) (.int .i64 b) 58 w).next (bl_al (.refl _ _) (.cells #[.int .i64 k', .slice B o kd, .bool d.s, .slice d.A i3 d.a, .slice d.B i4 d.b, .int .i64 a', .int .i64 b'] 58)))
  have hY := hide (C7.of (Bk.new1 #[.int .i64 k', .slice B o kd, .bool d.s, .slice d.A i3 d.a, .slice d.B i4 d.b, .int .i64 a', .int .i64 b'] 58 w (.cells #[.int .i64 k, .slice A n kc, .bool c.s, .slice c.A i1 c.a, .slice c.B i2 c.b, .int .i64 a, .int .i64 b] 58)))
  have hb0 := hide (bl_al (bl_al (.refl _ _) (.cells #[.int .i64 k, .slice A n kc, .bool c.s, .slice c.A i1 c.a, .slice c.B i2 c.b, .int .i64 a, .int .i64 b] 58)) (.cells #[.int .i64 k', .slice B o kd, .bool d.s, .slice d.A i3 d.a, .slice d.B i4 d.b, .int .i64 a', .int .i64 b'] 58) : Below w.heap.size w _)
  obtain ⟨x0, x1, x2, x3, x4, x5, x6⟩ := hX.out
  obtain ⟨y0, y1, y2, y3, y4, y5, y6⟩ := hY.out
  clear hX hY
  rcases x with _ | _
  · clear hS e2 e3
    go_enter Tryz.func47, Tryz.ntmps47
    go_wp2_with fail
    go_ret
    exact ⟨rfl, hb0.out⟩
  rcases y with _ | _
  · clear hS e3
    go_enter Tryz.func47, Tryz.ntmps47
    go_wp2_with fail
    go_ret
    exact ⟨rfl, hb0.out⟩
  rcases z with _ | _
  · clear hS
    go_enter Tryz.func47, Tryz.ntmps47
    go_wp2_with fail
    go_ret
    exact ⟨rfl, hb0.out⟩
  · go_enter Tryz.func47, Tryz.ntmps47
    go_wp2_with (first
      | (go_at_call 29; (with_reducible refine (hS.out _ hb0.out).mono ?_); rintro e w2 ⟨rfl, hb2⟩; replace hb2 := hide (bl_trans hb0.out hb2))
      | fail)
    go_ret
    exact ⟨rfl, hb2.out⟩
end Nt

end Go.Proofs.YtgimmmmpollkhaaGreat

namespace Go.Proofs.YtgimmmmpollkhaaGreat

open Go.ChangeShapes Go.RowKit

namespace Nt
set_option maxRecDepth 100000
set_option linter.unusedSimpArgs false
set_option linter.unusedVariables false

structure Ra (w : World) (c d : Pt) (A B : Option Addr) (n kc m kd go gc : Nat) (k : Pt) (v : Value) (cv : Pt) (l : List Pt) (W : World) : Prop where
  b : Below w.heap.size w W
  x : C4 w.heap.size (.slice A n kc) (.bool c.s) (.slice c.A c.xs.length c.a) (.slice c.B c.ys.length c.b) W
  y : C4 (w.heap.size + 1) (.slice B m kd) (.bool d.s) (.slice d.A d.xs.length d.a) (.slice d.B d.ys.length d.b) W
  r : Bk (w.heap.size + 1 + 1) zP 27 W
  o : Bk go #[v, .bool k.s, .slice k.A k.xs.length k.a, .slice k.B k.ys.length k.b] 27 W
  cb : Bk gc #[.bool cv.s, .slice cv.A cv.xs.length cv.a, .slice cv.B cv.ys.length cv.b] 25 W
  gn : Gn (w.heap.size + 3) W v l
  ok : ∀ p ∈ l, p.Ok ∧ p.At W
  ka : k.At W
  ne : w.heap.size + 3 ≤ go ∧ w.heap.size + 3 ≤ gc ∧ go ≠ gc ∧ v.ownBlock ≠ some go ∧ v.ownBlock ≠ some gc
section

variable {w W W' : World} {c d k cv : Pt} {A B : Option Addr} {n kc m kd go gc : Nat} {v : Value} {l : List Pt}
theorem Ra.next (h : Ra w c d A B n kc m kd go gc k v cv l W) (hb : Below W.heap.size W W') : Ra w c d A B n kc m kd go gc k v cv l W' :=
  ⟨bl_trans h.b hb, h.x.next hb, h.y.next hb, h.r.next hb, h.o.next hb, h.cb.next hb, h.gn.next hb, fun p hp => ⟨(h.ok p hp).1, (h.ok p hp).2.next hb⟩, h.ka.next hb, h.ne⟩
theorem Ra.vno (h : Ra w c d A B n kc m kd go gc k v cv l W) : ∀ u ∈ (#[v, .bool k.s, .slice k.A k.xs.length k.a, .slice k.B k.ys.length k.b] : Array Value).toList, noU u = true := by
  intro u hu
  simp at hu
  rcases hu with rfl | rfl | rfl | rfl
  · rcases h.gn with ⟨rfl, _⟩ | ⟨g, m, rfl, _⟩ <;> rfl
  · rfl
  · rfl
  · rfl
theorem Ra.push (h : Ra w c d A B n kc m kd go gc k v cv l W) (p : Pt) (hp : p.Ok) (aP : p.At W) (hl : l.length ≤ 100000) {x : Nat} (hX : Bk x #[.bool p.s, .slice p.A p.xs.length p.a, .slice p.B p.ys.length p.b, .int .i64 p.t] 83 W) :
    ∃ v' W', (∀ ty, (Builtin.append_ #[22, 22] ty #[v, .slice (some ⟨x, 0, none⟩) 1 1]).run Tryz.prog W = .ok v' W') ∧ (∃ g' m', v' = .slice (some ⟨g', 0, none⟩) (l.length + 1) m') ∧ Off v.ownBlock.toList W W' ∧ Bk go #[v, .bool k.s, .slice k.A k.xs.length k.a, .slice k.B k.ys.length k.b] 27 W' ∧ Ra w c d A B n kc m kd go gc k v' cv (l ++ [p]) (W'.setCell ⟨go, 0, none⟩ v') := by
  have hbs := h.b.size
  obtain ⟨n1, n2, n3, n4, n5⟩ := h.ne
  have hgs : w.heap.size + 3 ≤ W.heap.size := by have := h.o.lt; omega
  obtain ⟨v', W', hr, hg, hO, hw⟩ := h.gn.push p hl hgs hX
  have hT : ∀ b ∈ v.ownBlock.toList, w.heap.size + 3 ≤ b ∧ b ≠ go ∧ b ≠ gc := fun b hb => by
    rw [Option.mem_toList] at hb
    exact ⟨(h.gn.base b hb).1, fun e => n4 (by rw [← e]; exact hb), fun e => n5 (by rw [← e]; exact hb)⟩
  have ho := h.o.off hO (fun hm => (hT _ hm).2.1 rfl)
  have hc := h.cb.off hO (fun hm => (hT _ hm).2.2 rfl)
  have hO2 : Off [go] W' (W'.setCell ⟨go, 0, none⟩ v') := (Off.refl _ _).setCell _ _ (.inl (by simp))
  have hgo : ∀ b, v'.ownBlock = some b → b ≠ go ∧ b ≠ gc := fun b hb => by
    rcases hw b hb with e | e
    · exact ⟨fun e' => n4 (by rw [← e']; exact e), fun e' => n5 (by rw [← e']; exact e)⟩
    · have := h.o.lt; have := h.cb.lt; omega
  have hno := h.vno
  have hB : Below w.heap.size W W' := hO.below hbs (fun b hb => by have := (hT b hb).1; omega)
  have hform : ∃ g' m', v' = .slice (some ⟨g', 0, none⟩) (l.length + 1) m' := by
    rcases hg with ⟨_, e⟩ | ⟨g', m', e, _⟩
    · simp at e
    · exact ⟨g', m', by rw [e, List.length_append]; rfl⟩
  have hat : ∀ q : Pt, q.At W → q.At (W'.setCell ⟨go, 0, none⟩ v') := fun q hq => by
    have h1 := h.gn.at_ hq hO
    exact ⟨ho.sl hno h1.1 hO2, ho.sl hno h1.2 hO2⟩
  refine ⟨v', W', hr, hform, hO, ho, ⟨?_, ?_, ?_, ?_, ?_, ?_, hg.off hO2 (fun b hb hm => (hgo b hb).1 (by simpa using hm)), ?_, hat k h.ka, n1, n2, n3, fun e => (hgo go e).1 rfl, fun e => (hgo gc e).2 rfl⟩⟩
  · exact (h.b.trans hB).trans (hO2.below (Nat.le_trans hbs hO.size) (fun b hb => by simp at hb; omega))
  · exact (h.x.off hO (fun hm => by have := (hT _ hm).1; omega)).off hO2 (by simp; omega)
  · exact (h.y.off hO (fun hm => by have := (hT _ hm).1; omega)).off hO2 (by simp; omega)
  · exact (h.r.off hO (fun hm => by have := (hT _ hm).1; omega)).off hO2 (by simp; omega)
  · exact ho.set _ rfl
  · exact hc.off hO2 (by simp; exact fun e => n3 e.symm)
  · intro p' hp'
    rcases List.mem_append.1 hp' with hm | hm
    · exact ⟨(h.ok p' hm).1, hat p' (h.ok p' hm).2⟩
    · simp at hm
      subst hm
      exact ⟨hp, hat p' aP⟩
theorem Ra.done (h : Ra w c d A B n kc m kd go gc k v cv l W) (hk : k.Ok) :
    ∃ A' k', v = .slice A' l.length k' ∧ PR w (l.map Pt.qt) k.q (.returned (.tuple #[.agg #[.slice A' l.length k', .bool k.s, .slice k.A k.xs.length k.a, .slice k.B k.ys.length k.b], .int .i64 0]))
      ((((W.setCell ⟨w.heap.size + 1 + 1, 0, none⟩ (.slice A' l.length k')).setCell ⟨w.heap.size + 1 + 1, 1, none⟩ (.bool k.s)).setCell ⟨w.heap.size + 1 + 1, 2, none⟩ (.slice k.A k.xs.length k.a)).setCell ⟨w.heap.size + 1 + 1, 3, none⟩ (.slice k.B k.ys.length k.b)) := by
  have hbs := h.b.size
  obtain ⟨A', k', rfl, _, hk1, hk2⟩ := h.gn.pl (fun p hp => (h.ok p hp).2)
  have hO2 := off4 (w.heap.size + 1 + 1) W (.slice A' l.length k') (.bool k.s) (.slice k.A k.xs.length k.a) (.slice k.B k.ys.length k.b)
  have hg2 := h.gn.off hO2 (fun b hb hm => by simp at hm; have := (h.gn.base b hb).1; omega)
  obtain ⟨A2, k2, e2, hP, hk3, hk4⟩ := hg2.pl (fun p hp => at_off h.r (h.ok p hp).2 hO2)
  injection e2 with e2 _ e3
  subst e2
  subst e3
  exact ⟨A', k', rfl, A', k', l, k, rfl, rfl, rfl, hP, at_off h.r h.ka hO2, fun p hp => (h.ok p hp).1, hk, h.b.trans (hO2.below hbs (fun b hb => by simp at hb; omega)), hk3, hk4⟩
end
theorem Ra.start {w W : World} {c d k : Pt} {A B : Option Addr} {n kc m kd : Nat} (hb : Below ((V3 w c d A B n kc m kd).alloc (.cells zP 27)).heap.size ((V3 w c d A B n kc m kd).alloc (.cells zP 27)) W) (hk : k.At W) :
    Ra w c d A B n kc m kd (w.heap.size + 1 + 1 + 1) W.heap.size k (.slice none 0 0) k [] ((((W.alloc (.cells #[.bool k.s, .slice k.A k.xs.length k.a, .slice k.B k.ys.length k.b] 25)).setCell ⟨w.heap.size + 1 + 1 + 1, 1, none⟩ (.bool k.s)).setCell ⟨w.heap.size + 1 + 1 + 1, 2, none⟩ (.slice k.A k.xs.length k.a)).setCell ⟨w.heap.size + 1 + 1 + 1, 3, none⟩ (.slice k.B k.ys.length k.b)) := by
  have e3 : (V3 w c d A B n kc m kd).heap.size = w.heap.size + 1 + 1 + 1 := by simp [V3]
  have hb' : Below (V3 w c d A B n kc m kd).heap.size (V3 w c d A B n kc m kd) W := (bl_al (.refl _ _) _ : Below _ _ _).trans (hb.mono (by simp))
  obtain ⟨_, hx, hy, hr, hw⟩ := Ax.start w c d A B n kc m kd 0 (Nat.zero_le _) hb'
  have ho : Bk (w.heap.size + 1 + 1 + 1) zP 27 W := by
    have := (Bk.new zP 27 (V3 w c d A B n kc m kd)).next hb
    rwa [e3] at this
  have hs : w.heap.size + 1 + 1 + 1 < W.heap.size := ho.lt
  have hba : Below W.heap.size W (W.alloc (.cells #[.bool k.s, .slice k.A k.xs.length k.a, .slice k.B k.ys.length k.b] 25)) := bl_al (.refl _ _) _
  have hO : Off [w.heap.size + 1 + 1 + 1] (W.alloc (.cells #[.bool k.s, .slice k.A k.xs.length k.a, .slice k.B k.ys.length k.b] 25)) ((((W.alloc (.cells #[.bool k.s, .slice k.A k.xs.length k.a, .slice k.B k.ys.length k.b] 25)).setCell ⟨w.heap.size + 1 + 1 + 1, 1, none⟩ (.bool k.s)).setCell ⟨w.heap.size + 1 + 1 + 1, 2, none⟩ (.slice k.A k.xs.length k.a)).setCell ⟨w.heap.size + 1 + 1 + 1, 3, none⟩ (.slice k.B k.ys.length k.b)) :=
    (((Off.refl _ _).setCell _ _ (.inl (by simp))).setCell _ _ (.inl (by simp))).setCell _ _ (.inl (by simp))
  have hk' := at_off (ho.next hba) (hk.next hba) hO
  have hkk := hk.next hba
  refine ⟨(bl_trans hw hba).trans (hO.below (bl_trans hw hba).size (fun b hb => by simp at hb; omega)), (hx.next hba).off hO (by (simp) <;> omega), (hy.next hba).off hO (by (simp) <;> omega), (hr.next hba).off hO (by simp), ((((ho.next hba).set (.bool k.s) rfl).set (.slice k.A k.xs.length k.a) rfl).set (.slice k.B k.ys.length k.b) rfl), (Bk.new _ _ W).off hO (by (simp) <;> omega), Gn.nil _ _, fun p hp => by simp at hp, hk', by omega, by omega, by omega, by simp [Value.ownBlock], by simp [Value.ownBlock]⟩
end Nt

end Go.Proofs.YtgimmmmpollkhaaGreat

namespace Go.Proofs.YtgimmmmpollkhaaGreat

open Go.ChangeShapes Go.RowKit

namespace Nt
set_option maxRecDepth 100000
set_option linter.unusedSimpArgs false
set_option linter.unusedVariables false

structure Rw (w : World) (c : Pt) (A : Option Addr) (n kc go : Nat) (v : Value) (l : List Pt) (W : World) : Prop where
  b : Below w.heap.size w W
  x : C4 w.heap.size (.slice A n kc) (.bool c.s) (.slice c.A c.xs.length c.a) (.slice c.B c.ys.length c.b) W
  r : Bk (w.heap.size + 1) zP 27 W
  o : Bk go #[v, .bool c.s, .slice c.A c.xs.length c.a, .slice c.B c.ys.length c.b] 27 W
  gn : Gn (w.heap.size + 2) W v l
  ok : ∀ p ∈ l, p.Ok ∧ p.At W
  ca : c.At W
  ne : w.heap.size + 2 ≤ go ∧ v.ownBlock ≠ some go
section

variable {w W W' : World} {c : Pt} {A : Option Addr} {n kc go : Nat} {v : Value} {l : List Pt}
theorem Rw.next (h : Rw w c A n kc go v l W) (hb : Below W.heap.size W W') : Rw w c A n kc go v l W' :=
  ⟨bl_trans h.b hb, h.x.next hb, h.r.next hb, h.o.next hb, h.gn.next hb, fun p hp => ⟨(h.ok p hp).1, (h.ok p hp).2.next hb⟩, h.ca.next hb, h.ne⟩
theorem Rw.start (w : World) (c : Pt) (A : Option Addr) (n kc : Nat) (hc : c.At w) : Rw w c A n kc (w.heap.size + 1 + 1) (.slice none 0 0) [] ((Dw w c A n kc).alloc (.cells #[.slice none 0 0, .bool c.s, .slice c.A c.xs.length c.a, .slice c.B c.ys.length c.b] 27)) := by
  obtain ⟨hx, hR, hbw⟩ := Dw.start w c A n kc (bl_al (.refl _ _) (.cells #[.slice none 0 0, .bool c.s, .slice c.A c.xs.length c.a, .slice c.B c.ys.length c.b] 27))
  have e : (Dw w c A n kc).heap.size = w.heap.size + 1 + 1 := by simp [Dw]
  have ho := Bk.new #[.slice none 0 0, .bool c.s, .slice c.A c.xs.length c.a, .slice c.B c.ys.length c.b] 27 (Dw w c A n kc)
  rw [e] at ho
  exact ⟨hbw, hx, hR, ho, Gn.nil _ _, fun p hp => by simp at hp, hc.next hbw, by omega, by simp [Value.ownBlock]⟩
theorem Rw.push (h : Rw w c A n kc go v l W) (p : Pt) (hp : p.Ok) (aP : p.At W) (hl : l.length ≤ 100000) {x : Nat} (hX : Bk x #[.bool p.s, .slice p.A p.xs.length p.a, .slice p.B p.ys.length p.b, .int .i64 p.t] 83 W) :
    ∃ v' W', (∀ ty, (Builtin.append_ #[22, 22] ty #[v, .slice (some ⟨x, 0, none⟩) 1 1]).run Tryz.prog W = .ok v' W') ∧ (∃ g' m', v' = .slice (some ⟨g', 0, none⟩) (l.length + 1) m') ∧ Off v.ownBlock.toList W W' ∧ Bk go #[v, .bool c.s, .slice c.A c.xs.length c.a, .slice c.B c.ys.length c.b] 27 W' ∧ Rw w c A n kc go v' (l ++ [p]) (W'.setCell ⟨go, 0, none⟩ v') := by
  have hbs := h.b.size
  obtain ⟨n1, n4⟩ := h.ne
  have hgs : w.heap.size + 2 ≤ W.heap.size := by have := h.o.lt; omega
  obtain ⟨v', W', hr, hg, hO, hw⟩ := h.gn.push p hl hgs hX
  have hT : ∀ b ∈ v.ownBlock.toList, w.heap.size + 2 ≤ b ∧ b ≠ go := fun b hb => by
    rw [Option.mem_toList] at hb
    exact ⟨(h.gn.base b hb).1, fun e => n4 (by rw [← e]; exact hb)⟩
  have ho := h.o.off hO (fun hm => (hT _ hm).2 rfl)
  have hO2 : Off [go] W' (W'.setCell ⟨go, 0, none⟩ v') := (Off.refl _ _).setCell _ _ (.inl (by simp))
  have hgo : ∀ b, v'.ownBlock = some b → b ≠ go := fun b hb => by
    rcases hw b hb with e | e
    · exact fun e' => n4 (by rw [← e']; exact e)
    · have := h.o.lt; omega
  have hno : ∀ u ∈ (#[v, .bool c.s, .slice c.A c.xs.length c.a, .slice c.B c.ys.length c.b] : Array Value).toList, noU u = true := by
    intro u hu
    simp at hu
    rcases hu with rfl | rfl | rfl | rfl
    · rcases h.gn with ⟨rfl, _⟩ | ⟨g, m, rfl, _⟩ <;> rfl
    · rfl
    · rfl
    · rfl
  have hB : Below w.heap.size W W' := hO.below hbs (fun b hb => by have := (hT b hb).1; omega)
  have hform : ∃ g' m', v' = .slice (some ⟨g', 0, none⟩) (l.length + 1) m' := by
    rcases hg with ⟨_, e⟩ | ⟨g', m', e, _⟩
    · simp at e
    · exact ⟨g', m', by rw [e, List.length_append]; rfl⟩
  have hat : ∀ q : Pt, q.At W → q.At (W'.setCell ⟨go, 0, none⟩ v') := fun q hq => by
    have h1 := h.gn.at_ hq hO
    exact ⟨ho.sl hno h1.1 hO2, ho.sl hno h1.2 hO2⟩
  refine ⟨v', W', hr, hform, hO, ho, ⟨?_, ?_, ?_, ?_, hg.off hO2 (fun b hb hm => hgo b hb (by simpa using hm)), ?_, hat c h.ca, n1, fun e => hgo go e rfl⟩⟩
  · exact (h.b.trans hB).trans (hO2.below (Nat.le_trans hbs hO.size) (fun b hb => by simp at hb; omega))
  · exact (h.x.off hO (fun hm => by have := (hT _ hm).1; omega)).off hO2 (by simp; omega)
  · exact (h.r.off hO (fun hm => by have := (hT _ hm).1; omega)).off hO2 (by simp; omega)
  · exact ho.set _ rfl
  · intro p' hp'
    rcases List.mem_append.1 hp' with hm | hm
    · exact ⟨(h.ok p' hm).1, hat p' (h.ok p' hm).2⟩
    · simp at hm
      subst hm
      exact ⟨hp, hat p' aP⟩
end
def SumP (w : World) (l : List Pt) (c : Pt) (e : Ending) (w' : World) : Prop := ∃ (A : Option Addr) (k : Nat), e = .returned (.agg #[.slice A l.length k, .bool c.s, .slice c.A c.xs.length c.a, .slice c.B c.ys.length c.b]) ∧ Pl w' A l ∧ c.At w' ∧ Below w.heap.size w w' ∧ l.length ≤ k ∧ k ≤ maxLen
theorem Rw.done {w W : World} {c : Pt} {A : Option Addr} {n kc go : Nat} {v : Value} {l : List Pt} (h : Rw w c A n kc go v l W) :
    ∃ A' k', v = .slice A' l.length k' ∧ SumP w l c (.returned (.agg #[.slice A' l.length k', .bool c.s, .slice c.A c.xs.length c.a, .slice c.B c.ys.length c.b]))
      ((((W.setCell ⟨w.heap.size + 1, 0, none⟩ (.slice A' l.length k')).setCell ⟨w.heap.size + 1, 1, none⟩ (.bool c.s)).setCell ⟨w.heap.size + 1, 2, none⟩ (.slice c.A c.xs.length c.a)).setCell ⟨w.heap.size + 1, 3, none⟩ (.slice c.B c.ys.length c.b)) := by
  obtain ⟨A', k', rfl, _, hk1, hk2⟩ := h.gn.pl (fun p hp => (h.ok p hp).2)
  have hO2 := off4 (w.heap.size + 1) W (.slice A' l.length k') (.bool c.s) (.slice c.A c.xs.length c.a) (.slice c.B c.ys.length c.b)
  have hg2 := h.gn.off hO2 (fun b hb hm => by simp at hm; have := (h.gn.base b hb).1; omega)
  obtain ⟨A2, k2, e2, hP, hk3, hk4⟩ := hg2.pl (fun p hp => at_off h.r (h.ok p hp).2 hO2)
  injection e2 with e2 _ e3
  subst e2
  subst e3
  exact ⟨A', k', rfl, A', k', rfl, hP, at_off h.r h.ca hO2, h.b.trans (hO2.below h.b.size (fun b hb => by simp at hb; omega)), hk3, hk4⟩
end Nt

end Go.Proofs.YtgimmmmpollkhaaGreat

namespace Go.Proofs.YtgimmmmpollkhaaGreat

open Go.ChangeShapes Go.RowKit

namespace Nt
set_option maxRecDepth 100000
set_option linter.unusedSimpArgs false
set_option linter.unusedVariables false

theorem rquo_p {p k : Pt} (hp : p.Ok) (hk : k.Ok) (w : World) (aP : p.At w) (aK : k.At w) (h0 : k.q ≠ 0) (f : fitq (p.q / k.q)) : Calls Tryz.prog 64 #[rv p, rv k] w (NewQ (p.q / k.q) p.t w) := by
  rw [hp.rv, hk.rv]
  exact (rquo_q p.q k.q _ rfl _ _ _ _ _ _ _ _ w (hp.sl aP).1 (hp.sl aP).2 (hk.sl aK).1 (hk.sl aK).2 hp.f hk.f h0 f).mono fun e w' h => h.newQ f _
end Nt

end Go.Proofs.YtgimmmmpollkhaaGreat
