/-
  Are two numbers, two sums, two atoms the same, whatever they hold.
  The reference's sum of two sums (theodoliteref6.addPoly, AddPoly).
  The reference's sums: AddPoly; Scale of what is none; Coef, Without, Solve.
  The reference's Solve (theodoliteref6.Solve).
-/
import Derived.Test.YtgimmmmpollkhaaGreatLZd
import Derived.Test.YtgimmmmpollkhaaGreatLZv
namespace Go.Proofs.YtgimmmmpollkhaaGreat
open Go.ChangeShapes Go.RowKit
namespace Nt
set_option maxRecDepth 100000
set_option linter.unusedSimpArgs false
set_option linter.unusedVariables false

/-- What a number's rows hold; what a part holds. -/
def Pt.cn (p : Pt) : Bool × List Nat × List Nat := (p.s, p.xs, p.ys)
def Pt.raw (p : Pt) : (Bool × List Nat × List Nat) × Int := (p.cn, p.t)
theorem cn_iff (p r : Pt) : ((p.s == r.s) && (decide (p.xs = r.xs) && decide (p.ys = r.ys))) = decide (p.cn = r.cn) := by
  rw [Bool.eq_iff_iff]
  simp [Pt.cn, Prod.ext_iff]
theorem sameRat_r {p r : Pt} (hp : p.Few) (hr : r.Few) (w : World) (aP : p.At w) (aR : r.At w) (b : Bool) (hb : decide (p.cn = r.cn) = b) : Calls Tryz.prog 74 #[rv p, rv r] w fun e w' => e = .returned (.bool b) ∧ Below w.heap.size w w' := by
  rw [← cn_iff p r] at hb
  rw [← hb]
  exact sameRat_any p r w aP aR hp hr _ _ _ rfl rfl rfl
theorem rsame_r {p r : Pt} (hp : p.Few) (hr : r.Few) (w : World) (aP : p.At w) (aR : r.At w) (b : Bool) (hb : decide (p.cn = r.cn) = b) : Calls Tryz.prog 24 #[rv p, rv r] w fun e w' => e = .returned (.bool b) ∧ Below w.heap.size w w' :=
  Same_any p.s r.s p.A p.B r.A r.B p.a p.b r.a r.b _ _ _ _ p.xs p.ys r.xs r.ys w aP.1 aP.2 aR.1 aR.2 rfl rfl rfl rfl hp.mx hp.my hr.mx hr.my b (by
    rw [← hb]
    exact decide_eq_decide.2 (by simp [Pt.cn, Prod.ext_iff]))
set_option maxHeartbeats 4000000 in
theorem samePart_r {p r : Pt} (hp : p.Few) (hr : r.Few) (w : World) (aP : p.At w) (aR : r.At w) (b : Bool) (hb : decide (p.raw = r.raw) = b) : Calls Tryz.prog 73 #[pv p, pv r] w fun e w' => e = .returned (.bool b) ∧ Below w.heap.size w w' := by
  obtain ⟨b1, h1⟩ : ∃ b, decide (p.t = r.t) = b := ⟨_, rfl⟩
  obtain ⟨b2, h2⟩ : ∃ b, decide (p.cn = r.cn) = b := ⟨_, rfl⟩
  have hbb : b = (b1 && b2) := by
    rw [← hb, ← h1, ← h2, Bool.eq_iff_iff]
    simp [Pt.raw, and_comm]
  subst hbb
  have hS := hide (fun W (b : Below w.heap.size w W) => sameRat_r hp hr W (aP.next b) (aR.next b) b2 h2)
  have q1 := (show binOp .eql 3 (.int .i64 p.t) (.int .i64 r.t) = pure (.bool b1) by subst h1; rfl)
  clear hp hr aP aR h1 h2 hb
  unfold pv
  unfold rv at hS
  generalize p.xs.length = i1 at *
  generalize p.ys.length = i2 at *
  generalize r.xs.length = j1 at *
  generalize r.ys.length = j2 at *
  have hb : Below w.heap.size w ((w.alloc (.cells #[.bool p.s, .slice p.A i1 p.a, .slice p.B i2 p.b, .int .i64 p.t] 83)).alloc (.cells #[.bool r.s, .slice r.A j1 r.a, .slice r.B j2 r.b, .int .i64 r.t] 83)) := bl_al (bl_al (.refl _ _) _) _
  obtain ⟨x0, x1, x2, x3⟩ : C4 w.heap.size (.bool p.s) (.slice p.A i1 p.a) (.slice p.B i2 p.b) (.int .i64 p.t) ((w.alloc (.cells #[.bool p.s, .slice p.A i1 p.a, .slice p.B i2 p.b, .int .i64 p.t] 83)).alloc (.cells #[.bool r.s, .slice r.A j1 r.a, .slice r.B j2 r.b, .int .i64 r.t] 83)) := C4.of ((Bk.new _ _ w).al _)
  obtain ⟨y0, y1, y2, y3⟩ : C4 (w.heap.size + 1) (.bool r.s) (.slice r.A j1 r.a) (.slice r.B j2 r.b) (.int .i64 r.t) ((w.alloc (.cells #[.bool p.s, .slice p.A i1 p.a, .slice p.B i2 p.b, .int .i64 p.t] 83)).alloc (.cells #[.bool r.s, .slice r.A j1 r.a, .slice r.B j2 r.b, .int .i64 r.t] 83)) := C4.of (Bk.new1 _ _ w _)
  replace hb := hide hb
  cases b1 with
  | false =>
    go_enter Tryz.func73, Tryz.ntmps73
    go_wp2_with fail
    go_ret
    exact ⟨rfl, hb.out⟩
  | true =>
    go_enter Tryz.func73, Tryz.ntmps73
    go_wp2_with (go_at_call 74; (with_reducible refine (hS.out _ hb.out).mono ?_); rintro e w1 ⟨rfl, hb1⟩; replace hb1 := hide hb1)
    go_ret
    exact ⟨rfl, bl_trans hb.out hb1.out⟩
theorem raw_at {l m : List Pt} {i : Nat} (hx : i < l.length) (hy : i < m.length) (h : (l.take i).map Pt.raw = (m.take i).map Pt.raw) : ((l.take (i + 1)).map Pt.raw = (m.take (i + 1)).map Pt.raw) ↔ l[i].raw = m[i].raw := by
  rw [take_part hx, take_part hy, List.map_append, List.map_append, h]
  exact ⟨fun e => by have := List.append_cancel_left e; injection this, fun e => by show _ ++ [_] = _ ++ [_]; rw [e]⟩
set_option maxHeartbeats 8000000 in
/-- slices.EqualFunc, of parts, by samePart. -/
theorem equalF_r (A B : Option Addr) (c d : Nat) (l m : List Pt) (w : World) (hl : Pl w A l) (hm : Pl w B m) (fl : ∀ p ∈ l, p.Few) (fm : ∀ p ∈ m, p.Few) (nl : l.length ≤ 1000000) (nm : m.length ≤ 1000000) (r : Bool) (hr : decide (l.map Pt.raw = m.map Pt.raw) = r) :
    Calls Tryz.prog 72 #[.slice A l.length c, .slice B m.length d, .func (.func 73) #[] #[]] w fun e w' => e = .returned (.bool r) ∧ Below w.heap.size w w' := by
  subst hr
  by_cases hlm : l.length = m.length
  · have hS := hide (fun (p r : Pt) (hp : p ∈ l) (hr : r ∈ m) W (a1 : p.At W) (a2 : r.At W) => samePart_r (fl p hp) (fm r hr) W a1 a2)
    have hP := hide (fun W (b : Below w.heap.size w W) => Pl.next hl b)
    have hQ := hide (fun W (b : Below w.heap.size w W) => Pl.next hm b)
    have ht : l.take l.length = l := List.take_length
    have ht' : m.take l.length = m := by rw [hlm]; exact List.take_length
    obtain ⟨n, hn⟩ : ∃ n, n = l.length := ⟨_, rfl⟩
    rw [← hlm, ← hn]
    rw [← hn] at nl ht ht' hlm
    have hl' := hide hlm
    have hn' := hide hn
    replace ht := hide ht; replace ht' := hide ht'
    clear hlm hn hl hm nm fl fm
    go_enter Tryz.func72, Tryz.ntmps72
    go_wp2_with fail
    go_loopw [17] (fun ix wr => ∃ i : Nat, i ≤ n ∧ ix = .int .i64 (i : Int) ∧ Below w.heap.size w wr ∧ (l.take i).map Pt.raw = (m.take i).map Pt.raw) (fun ix _ => n - (intOf ix).toNat)
    case atStart => exact ⟨0, Nat.zero_le _, rfl, .refl _ _, rfl⟩
    case round =>
      obtain ⟨i, hi, rfl, hbw, htk⟩ := hrel
      by_cases hlt : i < n
      · have h1 : i < l.length := by rw [← hn'.out]; exact hlt
        have h2 : i < m.length := by rw [← hl'.out]; exact hlt
        have hiff := raw_at h1 h2 htk
        obtain ⟨g1, o1, rfl, ⟨x0, x1, x2, x3⟩, a1⟩ := (hP.out wr hbw).get h1
        obtain ⟨g2, o2, rfl, ⟨y0, y1, y2, y3⟩, a2⟩ := (hQ.out wr hbw).get h2
        have hb2 : Below wr.heap.size wr ((wr.alloc (.cells #[.bool l[i].s, .slice l[i].A l[i].xs.length l[i].a, .slice l[i].B l[i].ys.length l[i].b, .int .i64 l[i].t] 83)).alloc (.cells #[.bool m[i].s, .slice m[i].A m[i].xs.length m[i].a, .slice m[i].B m[i].ys.length m[i].b, .int .i64 m[i].t] 83)) := bl_al (bl_al (.refl _ _) _) _
        obtain ⟨b, hb⟩ : ∃ b, decide (l[i].raw = m[i].raw) = b := ⟨_, rfl⟩
        have hS := hS.out l[i] m[i] (List.getElem_mem h1) (List.getElem_mem h2) _ (a1.next hb2) (a2.next hb2) b hb
        have hy1 : Below wr.heap.size wr (wr.alloc (.cells #[.bool l[i].s, .slice l[i].A l[i].xs.length l[i].a, .slice l[i].B l[i].ys.length l[i].b, .int .i64 l[i].t] 83)) := bl_al (.refl _ _) _
        have z0 := cell_next hy1 y0
        have z1 := cell_next hy1 y1
        have z2 := cell_next hy1 y2
        have z3 := cell_next hy1 y3
        unfold pv at hS
        replace hS := hide hS; replace hiff := hide hiff; replace hb := hide hb
        clear a1 a2 hP hQ htk y0 y1 y2 y3 hy1
        generalize l[i] = p at *
        generalize m[i] = q at *
        generalize p.xs.length = i1 at *
        generalize p.ys.length = i2 at *
        generalize q.xs.length = j1 at *
        generalize q.ys.length = j2 at *
        have hlt' : (i : Int) < (n : Int) := by omega
        replace hb2 := hide hb2
        cases b with
        | false =>
          go_wp2_with (go_at_call 73; (with_reducible refine hS.out.mono ?_); rintro e wa ⟨rfl, hb3⟩; replace hb3 := hide hb3)
          have hne : ¬ l.map Pt.raw = m.map Pt.raw := fun e => by
            have := hiff.out.1 (by rw [List.map_take, List.map_take, e])
            have h := hb.out
            rw [decide_eq_true this] at h
            cases h
          go_ret
          exact ⟨by rw [decide_eq_false hne]; rfl, bl_trans hbw (bl_trans hb2.out hb3.out)⟩
        | true =>
          go_wp2_with (go_at_call 73; (with_reducible refine hS.out.mono ?_); rintro e wa ⟨rfl, hb3⟩; replace hb3 := hide hb3)
          go_roundw
          case rel => exact ⟨i + 1, hlt, by go_num, bl_trans hbw (bl_trans hb2.out hb3.out), hiff.out.2 (of_decide_eq_true hb.out)⟩
          case measure => simp only [intOf]; omega
      · have hin : i = n := by omega
        subst hin
        rw [ht.out, ht'.out] at htk
        have hd : decide (l.map Pt.raw = m.map Pt.raw) = true := decide_eq_true htk
        clear htk
        go_wp2_with fail
        go_ret
        exact ⟨by rw [hd]; rfl, hbw⟩
  · have hne : ¬ l.map Pt.raw = m.map Pt.raw := fun e => hlm (by have := congrArg List.length e; simpa using this)
    have hd : decide (l.map Pt.raw = m.map Pt.raw) = false := decide_eq_false hne
    have q1 : ((l.length : Int) != (m.length : Int)) = true := by simp; omega
    clear hl hm hne fl fm
    rw [hd]
    clear hd
    generalize l.length = n at *
    generalize m.length = k at *
    have hl2 : ¬ ((n : Int) = (k : Int)) := by omega
    go_enter Tryz.func72, Tryz.ntmps72
    go_wp2_with fail
    go_ret
    exact ⟨rfl, .refl _ _⟩
set_option maxHeartbeats 8000000 in
/-- linear.Same. -/
theorem lsame_r (A B : Option Addr) (kc kd : Nat) (l m : List Pt) (c d : Pt) (w : World) (hl : Pl w A l) (hm : Pl w B m) (fl : ∀ p ∈ l, p.Few) (fm : ∀ p ∈ m, p.Few) (hc : c.At w) (hd : d.At w) (fc : c.Few) (fd : d.Few) (nl : l.length ≤ 1000000) (nm : m.length ≤ 1000000) (b1 b2 : Bool) (h1 : decide (l.map Pt.raw = m.map Pt.raw) = b1) (h2 : decide (c.cn = d.cn) = b2) :
    Calls Tryz.prog 29 #[polyV A l.length kc c, polyV B m.length kd d] w fun e w' => e = .returned (.bool (b1 && b2)) ∧ Below w.heap.size w w' := by
  have hE := hide (fun W (b : Below w.heap.size w W) => equalF_r A B kc kd l m W (hl.next b) (hm.next b) fl fm nl nm b1 h1)
  have hS := hide (fun W (b : Below w.heap.size w W) => sameRat_r fc fd W (hc.next b) (hd.next b) b2 h2)
  clear hl hm fl fm hc hd fc fd h1 h2
  unfold polyV
  unfold rv at hS
  generalize l.length = n at *
  generalize m.length = k at *
  generalize c.xs.length = i1 at *
  generalize c.ys.length = i2 at *
  generalize d.xs.length = j1 at *
  generalize d.ys.length = j2 at *
  have hb : Below w.heap.size w ((w.alloc (.cells #[.slice A n kc, .bool c.s, .slice c.A i1 c.a, .slice c.B i2 c.b] 27)).alloc (.cells #[.slice B k kd, .bool d.s, .slice d.A j1 d.a, .slice d.B j2 d.b] 27)) := bl_al (bl_al (.refl _ _) _) _
  have hX : C4 w.heap.size (.slice A n kc) (.bool c.s) (.slice c.A i1 c.a) (.slice c.B i2 c.b) ((w.alloc (.cells #[.slice A n kc, .bool c.s, .slice c.A i1 c.a, .slice c.B i2 c.b] 27)).alloc (.cells #[.slice B k kd, .bool d.s, .slice d.A j1 d.a, .slice d.B j2 d.b] 27)) := C4.of ((Bk.new _ _ w).al _)
  have hY : C4 (w.heap.size + 1) (.slice B k kd) (.bool d.s) (.slice d.A j1 d.a) (.slice d.B j2 d.b) ((w.alloc (.cells #[.slice A n kc, .bool c.s, .slice c.A i1 c.a, .slice c.B i2 c.b] 27)).alloc (.cells #[.slice B k kd, .bool d.s, .slice d.A j1 d.a, .slice d.B j2 d.b] 27)) := C4.of (Bk.new1 _ _ w _)
  obtain ⟨x0, x1, x2, x3⟩ := hX
  obtain ⟨y0, y1, y2, y3⟩ := hY
  have hXn := hide (fun W b => C4.next (w' := W) ⟨x0, x1, x2, x3⟩ b)
  have hYn := hide (fun W b => C4.next (w' := W) ⟨y0, y1, y2, y3⟩ b)
  replace hb := hide hb
  cases b1 with
  | false =>
    go_enter Tryz.func29, Tryz.ntmps29
    go_wp2_with (go_at_call 72; (with_reducible refine (hE.out _ hb.out).mono ?_); rintro e w1 ⟨rfl, hb1⟩; replace hb1 := hide hb1)
    go_ret
    exact ⟨rfl, bl_trans hb.out hb1.out⟩
  | true =>
    go_enter Tryz.func29, Tryz.ntmps29
    go_wp2_with (first
      | (go_at_call 72; (with_reducible refine (hE.out _ hb.out).mono ?_); rintro e w1 ⟨rfl, hb1⟩; clear x0 x1 x2 x3 y0 y1 y2 y3; obtain ⟨x0, x1, x2, x3⟩ := hXn.out _ hb1; obtain ⟨y0, y1, y2, y3⟩ := hYn.out _ hb1; have hbw := hide (bl_trans hb.out hb1); clear hb1)
      | (go_at_call 74; (with_reducible refine (hS.out _ hbw.out).mono ?_); rintro e w2 ⟨rfl, hb2⟩; replace hb2 := hide hb2))
    go_ret
    exact ⟨rfl, bl_trans hbw.out hb2.out⟩
set_option maxHeartbeats 8000000 in
theorem rsamep_r (A B : Option Addr) (kc kd : Nat) (l m : List Pt) (c d : Pt) (w : World) (hl : Pl w A l) (hm : Pl w B m) (fl : ∀ p ∈ l, p.Few) (fm : ∀ p ∈ m, p.Few) (hc : c.At w) (hd : d.At w) (fc : c.Few) (fd : d.Few) (nl : l.length ≤ 1000000) (nm : m.length ≤ 1000000) (r : Bool) (hr : (decide (l.map Pt.raw = m.map Pt.raw) && decide (c.cn = d.cn)) = r) :
    Calls Tryz.prog 23 #[polyV A l.length kc c, polyV B m.length kd d] w fun e w' => e = .returned (.bool r) ∧ Below w.heap.size w w' := by
  obtain ⟨b2, h2⟩ : ∃ b, decide (c.cn = d.cn) = b := ⟨_, rfl⟩
  have hS := hide (fun W (b : Below w.heap.size w W) => rsame_r fc fd W (hc.next b) (hd.next b) b2 h2)
  have hT := hide (fun (p r : Pt) (hp : p ∈ l) (hr : r ∈ m) W (a : p.At W) (a' : r.At W) b h => rsame_r (fl p hp) (fm r hr) W a a' b h)
  have hP := hide (fun W (b : Below w.heap.size w W) => hl.next b)
  have hQ := hide (fun W (b : Below w.heap.size w W) => hm.next b)
  rw [h2] at hr
  clear hc hd fc fd h2 hl hm fl fm
  unfold polyV rv at *
  obtain ⟨n, hnn⟩ : ∃ n, n = l.length := ⟨_, rfl⟩
  obtain ⟨k, hkk⟩ : ∃ k, k = m.length := ⟨_, rfl⟩
  rw [← hnn, ← hkk]
  rw [← hnn] at nl
  rw [← hkk] at nm
  replace hnn := hide hnn
  replace hkk := hide hkk
  have hX := hide ((C4.new (.slice A n kc) (.bool c.s) (.slice c.A c.xs.length c.a) (.slice c.B c.ys.length c.b) 27 w).next (bl_al (.refl _ _) (.cells #[.slice B k kd, .bool d.s, .slice d.A d.xs.length d.a, .slice d.B d.ys.length d.b] 27)))
  have hY := hide (C4.of (Bk.new1 #[.slice B k kd, .bool d.s, .slice d.A d.xs.length d.a, .slice d.B d.ys.length d.b] 27 w (.cells #[.slice A n kc, .bool c.s, .slice c.A c.xs.length c.a, .slice c.B c.ys.length c.b] 27)))
  have hb0 := hide (bl_al (bl_al (.refl _ _) (.cells #[.slice A n kc, .bool c.s, .slice c.A c.xs.length c.a, .slice c.B c.ys.length c.b] 27)) (.cells #[.slice B k kd, .bool d.s, .slice d.A d.xs.length d.a, .slice d.B d.ys.length d.b] 27) : Below w.heap.size w _)
  generalize c.xs.length = i1 at *
  generalize c.ys.length = i2 at *
  generalize d.xs.length = i3 at *
  generalize d.ys.length = i4 at *
  obtain ⟨x0, x1, x2, x3⟩ := hX.out
  obtain ⟨y0, y1, y2, y3⟩ := hY.out
  by_cases hnk : n = k
  · subst hnk
    rcases b2 with _ | _
    · rw [Bool.and_false] at hr
      subst hr
      clear hX hY
      go_enter Tryz.func23, Tryz.ntmps23
      go_wp2_with (first
        | (go_at_call 24; (with_reducible refine (hS.out _ hb0.out).mono ?_); rintro e wa ⟨rfl, hb3⟩; replace hb3 := hide (bl_trans hb0.out hb3))
        | fail)
      go_ret
      exact ⟨rfl, hb3.out⟩
    · rw [Bool.and_true] at hr
      go_enter Tryz.func23, Tryz.ntmps23
      go_wp2_with (first
        | (go_at_call 24; (with_reducible refine (hS.out _ hb0.out).mono ?_); rintro e wa ⟨rfl, hb3⟩; clear x0 x1 x2 x3 y0 y1 y2 y3; have hX3 := hide (hX.out.next hb3); have hY3 := hide (hY.out.next hb3); replace hb3 := hide (bl_trans hb0.out hb3))
        | fail)
      clear hX hY hb0 hS
      go_loopw [5] (fun ix wr => ∃ i : Nat, i ≤ n ∧ ix = .int .i64 (i : Int) ∧ Below w.heap.size w wr ∧ C4 w.heap.size (.slice A n kc) (.bool c.s) (.slice c.A i1 c.a) (.slice c.B i2 c.b) wr ∧ C4 (w.heap.size + 1) (.slice B n kd) (.bool d.s) (.slice d.A i3 d.a) (.slice d.B i4 d.b) wr ∧ (l.take i).map Pt.raw = (m.take i).map Pt.raw) (fun ix _ => n - (intOf ix).toNat)
      case atStart => exact ⟨0, Nat.zero_le _, rfl, hb3.out, hX3.out, hY3.out, rfl⟩
      case round =>
        obtain ⟨i, hi, rfl, hbw, hCw, hDw, htk⟩ := hrel
        by_cases hlt : i < n
        · have h1 : i < l.length := by rw [← hnn.out]; exact hlt
          have h2 : i < m.length := by rw [← hkk.out]; exact hlt
          have hiff := raw_at h1 h2 htk
          obtain ⟨g1, o1, rfl, ⟨p0, p1, p2, p3⟩, a1⟩ := (hP.out wr hbw).get h1
          obtain ⟨g2, o2, rfl, ⟨r0, r1, r2, r3⟩, a2⟩ := (hQ.out wr hbw).get h2
          obtain ⟨bt, ht⟩ : ∃ b, decide (l[i].t ≠ m[i].t) = b := ⟨_, rfl⟩
          obtain ⟨bq, hq⟩ : ∃ b, decide (l[i].cn = m[i].cn) = b := ⟨_, rfl⟩
          have e1 := neq_b 3 l[i].t m[i].t bt ht
          have hqq : bt = false → bq = true → l[i].raw = m[i].raw := fun h h' => by
            rw [h] at ht
            rw [h'] at hq
            have h3 := of_decide_eq_true hq
            have h4 : l[i].t = m[i].t := by simpa using ht
            show (l[i].cn, l[i].t) = (m[i].cn, m[i].t)
            rw [h3, h4]
          have hnq : bt = true ∨ bq = false → l.map Pt.raw ≠ m.map Pt.raw := fun h e => by
            have h5 : l[i].raw = m[i].raw := hiff.1 (by rw [List.map_take, List.map_take, e])
            have h6 : l[i].cn = m[i].cn := congrArg Prod.fst h5
            have h7 : l[i].t = m[i].t := congrArg Prod.snd h5
            rcases h with h | h
            · rw [h] at ht
              exact of_decide_eq_true ht h7
            · rw [h] at hq
              exact of_decide_eq_false hq h6
          have hSm := hide (fun W (b : Below wr.heap.size wr W) => hT.out l[i] m[i] (List.getElem_mem h1) (List.getElem_mem h2) W (a1.next b) (a2.next b) bq hq)
          have hiff := hide (fun (h : bt = false ∧ bq = true) => hiff.2 (hqq h.1 h.2))
          replace hnq := hide hnq
          clear hqq hq ht htk a1 a2 hP hQ hT
          generalize l[i] = p at *
          generalize m[i] = q at *
          generalize p.xs.length = j1 at *
          generalize p.ys.length = j2 at *
          generalize q.xs.length = j3 at *
          generalize q.ys.length = j4 at *
          have hlt' : (i : Int) < (n : Int) := by omega
          have hSf := hide (fun W (b : Below wr.heap.size wr W) => (show (W.cell? ⟨w.heap.size, 0, none⟩ = some (.slice (some ⟨g1, o1, none⟩) n kc) ∧ W.cell? ⟨w.heap.size + 1, 0, none⟩ = some (.slice (some ⟨g2, o2, none⟩) n kd)) ∧ (W.cell? ⟨g1, o1 + i * 4, none⟩ = some (.bool p.s) ∧ W.cell? ⟨g1, o1 + i * 4 + 1, none⟩ = some (.slice p.A j1 p.a) ∧ W.cell? ⟨g1, o1 + i * 4 + 2, none⟩ = some (.slice p.B j2 p.b) ∧ W.cell? ⟨g1, o1 + i * 4 + 3, none⟩ = some (.int .i64 p.t)) ∧ (W.cell? ⟨g2, o2 + i * 4, none⟩ = some (.bool q.s) ∧ W.cell? ⟨g2, o2 + i * 4 + 1, none⟩ = some (.slice q.A j3 q.a) ∧ W.cell? ⟨g2, o2 + i * 4 + 2, none⟩ = some (.slice q.B j4 q.b) ∧ W.cell? ⟨g2, o2 + i * 4 + 3, none⟩ = some (.int .i64 q.t)) from
            ⟨⟨cell_next b hCw.1, cell_next b hDw.1⟩, ⟨cell_next b p0, cell_next b p1, cell_next b p2, cell_next b p3⟩, ⟨cell_next b r0, cell_next b r1, cell_next b r2, cell_next b r3⟩⟩))
          have hCw2 := hide (fun W (b : Below wr.heap.size wr W) => And.intro (hCw.next b) (hDw.next b))
          obtain ⟨x0, x1, x2, x3⟩ := hCw
          obtain ⟨y0, y1, y2, y3⟩ := hDw
          rcases bt with _ | _
          · have hn2 := hide (fun (h : bq = false) => hnq.out (.inr h))
            have hi2 := hide (fun (h : bq = true) => hiff.out ⟨rfl, h⟩)
            clear hnq hiff
            go_wp2_with fail
            have bc := ka0 wr
            go_region_held3 (fun W => (W.cell? ⟨w.heap.size, 0, none⟩ = some (.slice (some ⟨g1, o1, none⟩) n kc) ∧ W.cell? ⟨w.heap.size + 1, 0, none⟩ = some (.slice (some ⟨g2, o2, none⟩) n kd)) ∧ (W.cell? ⟨g1, o1 + i * 4, none⟩ = some (.bool p.s) ∧ W.cell? ⟨g1, o1 + i * 4 + 1, none⟩ = some (.slice p.A j1 p.a) ∧ W.cell? ⟨g1, o1 + i * 4 + 2, none⟩ = some (.slice p.B j2 p.b) ∧ W.cell? ⟨g1, o1 + i * 4 + 3, none⟩ = some (.int .i64 p.t)) ∧ (W.cell? ⟨g2, o2 + i * 4, none⟩ = some (.bool q.s) ∧ W.cell? ⟨g2, o2 + i * 4 + 1, none⟩ = some (.slice q.A j3 q.a) ∧ W.cell? ⟨g2, o2 + i * 4 + 2, none⟩ = some (.slice q.B j4 q.b) ∧ W.cell? ⟨g2, o2 + i * 4 + 3, none⟩ = some (.int .i64 q.t)))
              (first | (with_reducible exact hSf.out _ bc) | fail)
              (first
                | (go_at_call 24; (with_reducible refine (hSm.out _ bc).mono ?_); rintro e wz ⟨rfl, hb⟩; replace bc := bl_trans bc hb; clear hb)
                | fail)
            all_goals
              clear x0 x1 x2 x3 y0 y1 y2 y3 p0 p1 p2 p3 r0 r1 r2 r3
              rcases bq with _ | _
              · rw [decide_eq_false (hn2.out rfl)] at hr
                subst hr
                clear hn2 hi2
                go_wp2_with fail
                go_ret
                exact ⟨rfl, bl_trans hbw bc⟩
              · have hi3 := hide (hi2.out rfl)
                clear hn2 hi2
                go_wp2_with fail
                go_roundw
                case rel => exact ⟨i + 1, hlt, by go_num, bl_trans hbw bc, (hCw2.out _ bc).1, (hCw2.out _ bc).2, hi3.out⟩
                case measure => simp only [intOf]; omega
          · rw [decide_eq_false (hnq.out (.inl rfl))] at hr
            subst hr
            clear hSm hSf hiff hnq hCw2
            go_wp2_with fail
            have bc := hide (ka0 wr)
            go_quiet (fail)
            go_wp2_with fail
            go_ret
            exact ⟨rfl, bl_trans hbw (((Off.refl [] wr).drewN _).below (Nat.le_refl _) (by simp))⟩
        · have hin : i = n := by omega
          subst hin
          rw [hnn.out, List.take_length, ← hnn.out, hkk.out, List.take_length] at htk
          have hd : decide (l.map Pt.raw = m.map Pt.raw) = true := decide_eq_true htk
          rw [hd] at hr
          subst hr
          clear htk hd
          obtain ⟨x0, x1, x2, x3⟩ := hCw
          obtain ⟨y0, y1, y2, y3⟩ := hDw
          go_wp2_with fail
          go_ret
          exact ⟨rfl, hbw⟩
  · have e1 := neq_b 3 (n : Int) (k : Int) true (decide_eq_true (by omega))
    have q1 : ((n : Int) != (k : Int)) = true := by simp; omega
    have hne : ¬ l.map Pt.raw = m.map Pt.raw := fun e => hnk (by have := congrArg List.length e; rw [List.length_map, List.length_map] at this; rw [hnn.out, hkk.out]; exact this)
    rw [decide_eq_false hne] at hr
    subst hr
    clear hX hY hS hne hnk
    go_enter Tryz.func23, Tryz.ntmps23
    go_wp2_with fail
    go_ret
    exact ⟨rfl, hb0.out⟩
end Nt
end Go.Proofs.YtgimmmmpollkhaaGreat
namespace Go.Proofs.YtgimmmmpollkhaaGreat
open Go.ChangeShapes Go.RowKit
namespace Nt
set_option maxRecDepth 100000
set_option linter.unusedSimpArgs false
set_option linter.unusedVariables false

/-- What is at hand in addPoly's loop. -/
structure Ra (w : World) (c d : Pt) (A B : Option Addr) (n kc m kd go gc : Nat) (k : Pt) (v : Value) (cv : Pt) (l : List Pt) (W : World) : Prop where
  b : Below w.heap.size w W
  x : C4 w.heap.size (.slice A n kc) (.bool c.s) (.slice c.A c.xs.length c.a) (.slice c.B c.ys.length c.b) W
  y : C4 (w.heap.size + 1) (.slice B m kd) (.bool d.s) (.slice d.A d.xs.length d.a) (.slice d.B d.ys.length d.b) W
  r : Bk (w.heap.size + 1 + 1) zP 27 W
  o : Bk go #[v, .bool k.s, .slice k.A k.xs.length k.a, .slice k.B k.ys.length k.b] 27 W
  cb : Bk gc #[.bool cv.s, .slice cv.A cv.xs.length cv.a, .slice cv.B cv.ys.length cv.b] 25 W
  gn : Gn (w.heap.size + 3) W v l
  ok : ∀ p ∈ l, p.Ok ∧ p.At W
  ka : k.At W
  ne : w.heap.size + 3 ≤ go ∧ w.heap.size + 3 ≤ gc ∧ go ≠ gc ∧ v.ownBlock ≠ some go ∧ v.ownBlock ≠ some gc
section
variable {w W W' : World} {c d k cv : Pt} {A B : Option Addr} {n kc m kd go gc : Nat} {v : Value} {l : List Pt}
theorem Ra.next (h : Ra w c d A B n kc m kd go gc k v cv l W) (hb : Below W.heap.size W W') : Ra w c d A B n kc m kd go gc k v cv l W' :=
  ⟨bl_trans h.b hb, h.x.next hb, h.y.next hb, h.r.next hb, h.o.next hb, h.cb.next hb, h.gn.next hb, fun p hp => ⟨(h.ok p hp).1, (h.ok p hp).2.next hb⟩, h.ka.next hb, h.ne⟩
theorem Ra.vno (h : Ra w c d A B n kc m kd go gc k v cv l W) : ∀ u ∈ (#[v, .bool k.s, .slice k.A k.xs.length k.a, .slice k.B k.ys.length k.b] : Array Value).toList, noU u = true := by
  intro u hu
  simp at hu
  rcases hu with rfl | rfl | rfl | rfl
  · rcases h.gn with ⟨rfl, _⟩ | ⟨g, m, rfl, _⟩ <;> rfl
  · rfl
  · rfl
  · rfl
/-- A part more: the slice grows, and its box has it. -/
theorem Ra.push (h : Ra w c d A B n kc m kd go gc k v cv l W) (p : Pt) (hp : p.Ok) (aP : p.At W) (hl : l.length ≤ 100000) {x : Nat} (hX : Bk x #[.bool p.s, .slice p.A p.xs.length p.a, .slice p.B p.ys.length p.b, .int .i64 p.t] 83 W) :
    ∃ v' W', (∀ ty, (Builtin.append_ #[22, 22] ty #[v, .slice (some ⟨x, 0, none⟩) 1 1]).run Tryz.prog W = .ok v' W') ∧ (∃ g' m', v' = .slice (some ⟨g', 0, none⟩) (l.length + 1) m') ∧ Off v.ownBlock.toList W W' ∧ Bk go #[v, .bool k.s, .slice k.A k.xs.length k.a, .slice k.B k.ys.length k.b] 27 W' ∧ Ra w c d A B n kc m kd go gc k v' cv (l ++ [p]) (W'.setCell ⟨go, 0, none⟩ v') := by
  have hbs := h.b.size
  obtain ⟨n1, n2, n3, n4, n5⟩ := h.ne
  have hgs : w.heap.size + 3 ≤ W.heap.size := by have := h.o.lt; omega
  obtain ⟨v', W', hr, hg, hO, hw⟩ := h.gn.push p hl hgs hX
  have hT : ∀ b ∈ v.ownBlock.toList, w.heap.size + 3 ≤ b ∧ b ≠ go ∧ b ≠ gc := fun b hb => by
    rw [Option.mem_toList] at hb
    exact ⟨(h.gn.base b hb).1, fun e => n4 (by rw [← e]; exact hb), fun e => n5 (by rw [← e]; exact hb)⟩
  have ho := h.o.off hO (fun hm => (hT _ hm).2.1 rfl)
  have hc := h.cb.off hO (fun hm => (hT _ hm).2.2 rfl)
  have hO2 : Off [go] W' (W'.setCell ⟨go, 0, none⟩ v') := (Off.refl _ _).setCell _ _ (.inl (by simp))
  have hgo : ∀ b, v'.ownBlock = some b → b ≠ go ∧ b ≠ gc := fun b hb => by
    rcases hw b hb with e | e
    · exact ⟨fun e' => n4 (by rw [← e']; exact e), fun e' => n5 (by rw [← e']; exact e)⟩
    · have := h.o.lt; have := h.cb.lt; omega
  have hno := h.vno
  have hB : Below w.heap.size W W' := hO.below hbs (fun b hb => by have := (hT b hb).1; omega)
  have hform : ∃ g' m', v' = .slice (some ⟨g', 0, none⟩) (l.length + 1) m' := by
    rcases hg with ⟨_, e⟩ | ⟨g', m', e, _⟩
    · simp at e
    · exact ⟨g', m', by rw [e, List.length_append]; rfl⟩
  have hat : ∀ q : Pt, q.At W → q.At (W'.setCell ⟨go, 0, none⟩ v') := fun q hq => by
    have h1 := h.gn.at_ hq hO
    exact ⟨ho.sl hno h1.1 hO2, ho.sl hno h1.2 hO2⟩
  refine ⟨v', W', hr, hform, hO, ho, ⟨?_, ?_, ?_, ?_, ?_, ?_, hg.off hO2 (fun b hb hm => (hgo b hb).1 (by simpa using hm)), ?_, hat k h.ka, n1, n2, n3, fun e => (hgo go e).1 rfl, fun e => (hgo gc e).2 rfl⟩⟩
  · exact (h.b.trans hB).trans (hO2.below (Nat.le_trans hbs hO.size) (fun b hb => by simp at hb; omega))
  · exact (h.x.off hO (fun hm => by have := (hT _ hm).1; omega)).off hO2 (by simp; omega)
  · exact (h.y.off hO (fun hm => by have := (hT _ hm).1; omega)).off hO2 (by simp; omega)
  · exact (h.r.off hO (fun hm => by have := (hT _ hm).1; omega)).off hO2 (by simp; omega)
  · exact ho.set _ rfl
  · exact hc.off hO2 (by simp; exact fun e => n3 e.symm)
  · intro p' hp'
    rcases List.mem_append.1 hp' with hm | hm
    · exact ⟨(h.ok p' hm).1, hat p' (h.ok p' hm).2⟩
    · simp at hm
      subst hm
      exact ⟨hp, hat p' aP⟩
/-- The number in its box is another. -/
theorem Ra.setc (h : Ra w c d A B n kc m kd go gc k v cv l W) (r : Pt) (hr : r.At W) :
    Ra w c d A B n kc m kd go gc k v r l (((W.setCell ⟨gc, 0, none⟩ (.bool r.s)).setCell ⟨gc, 1, none⟩ (.slice r.A r.xs.length r.a)).setCell ⟨gc, 2, none⟩ (.slice r.B r.ys.length r.b)) ∧ r.At (((W.setCell ⟨gc, 0, none⟩ (.bool r.s)).setCell ⟨gc, 1, none⟩ (.slice r.A r.xs.length r.a)).setCell ⟨gc, 2, none⟩ (.slice r.B r.ys.length r.b)) := by
  have hO := off3 gc W (.bool r.s) (.slice r.A r.xs.length r.a) (.slice r.B r.ys.length r.b)
  obtain ⟨n1, n2, n3, n4, n5⟩ := h.ne
  have hat : ∀ q : Pt, q.At W → q.At _ := fun q hq => ⟨h.cb.sl (box_noU cv) hq.1 hO, h.cb.sl (box_noU cv) hq.2 hO⟩
  exact ⟨⟨h.b.trans (hO.below h.b.size (fun b hb => by simp at hb; omega)), h.x.off hO (by simp; omega), h.y.off hO (by simp; omega), h.r.off hO (by simp; omega), h.o.off hO (by simpa using n3), (((h.cb.set (.bool r.s) rfl).set (.slice r.A r.xs.length r.a) rfl).set (.slice r.B r.ys.length r.b) rfl), h.gn.off hO (fun b hb hm => n5 (by simp at hm; rw [← hm]; exact hb)), fun p hp => ⟨(h.ok p hp).1, hat p (h.ok p hp).2⟩, hat k h.ka, n1, n2, n3, n4, n5⟩, hat r hr⟩
/-- All of it handed back. -/
theorem Ra.done (h : Ra w c d A B n kc m kd go gc k v cv l W) (hk : k.Ok) :
    ∃ A' k', v = .slice A' l.length k' ∧ PR w (l.map Pt.qt) k.q (.returned (.tuple #[.agg #[.slice A' l.length k', .bool k.s, .slice k.A k.xs.length k.a, .slice k.B k.ys.length k.b], .int .i64 0]))
      ((((W.setCell ⟨w.heap.size + 1 + 1, 0, none⟩ (.slice A' l.length k')).setCell ⟨w.heap.size + 1 + 1, 1, none⟩ (.bool k.s)).setCell ⟨w.heap.size + 1 + 1, 2, none⟩ (.slice k.A k.xs.length k.a)).setCell ⟨w.heap.size + 1 + 1, 3, none⟩ (.slice k.B k.ys.length k.b)) := by
  have hbs := h.b.size
  obtain ⟨A', k', rfl, _, hk1, hk2⟩ := h.gn.pl (fun p hp => (h.ok p hp).2)
  have hO2 := off4 (w.heap.size + 1 + 1) W (.slice A' l.length k') (.bool k.s) (.slice k.A k.xs.length k.a) (.slice k.B k.ys.length k.b)
  have hg2 := h.gn.off hO2 (fun b hb hm => by simp at hm; have := (h.gn.base b hb).1; omega)
  obtain ⟨A2, k2, e2, hP, hk3, hk4⟩ := hg2.pl (fun p hp => at_off h.r (h.ok p hp).2 hO2)
  injection e2 with e2 _ e3
  subst e2
  subst e3
  exact ⟨A', k', rfl, A', k', l, k, rfl, rfl, rfl, hP, at_off h.r h.ka hO2, fun p hp => (h.ok p hp).1, hk, h.b.trans (hO2.below hbs (fun b hb => by simp at hb; omega)), hk3, hk4⟩
end
theorem Ra.start {w W : World} {c d k : Pt} {A B : Option Addr} {n kc m kd : Nat} (hb : Below ((V3 w c d A B n kc m kd).alloc (.cells zP 27)).heap.size ((V3 w c d A B n kc m kd).alloc (.cells zP 27)) W) (hk : k.At W) :
    Ra w c d A B n kc m kd (w.heap.size + 1 + 1 + 1) W.heap.size k (.slice none 0 0) k [] ((((W.alloc (.cells #[.bool k.s, .slice k.A k.xs.length k.a, .slice k.B k.ys.length k.b] 25)).setCell ⟨w.heap.size + 1 + 1 + 1, 1, none⟩ (.bool k.s)).setCell ⟨w.heap.size + 1 + 1 + 1, 2, none⟩ (.slice k.A k.xs.length k.a)).setCell ⟨w.heap.size + 1 + 1 + 1, 3, none⟩ (.slice k.B k.ys.length k.b)) := by
  have e3 : (V3 w c d A B n kc m kd).heap.size = w.heap.size + 1 + 1 + 1 := by simp [V3]
  have hb' : Below (V3 w c d A B n kc m kd).heap.size (V3 w c d A B n kc m kd) W := (bl_al (.refl _ _) _ : Below _ _ _).trans (hb.mono (by simp))
  obtain ⟨_, hx, hy, hr, hw⟩ := Ax.start w c d A B n kc m kd 0 (Nat.zero_le _) hb'
  have ho : Bk (w.heap.size + 1 + 1 + 1) zP 27 W := by
    have := (Bk.new zP 27 (V3 w c d A B n kc m kd)).next hb
    rwa [e3] at this
  have hs : w.heap.size + 1 + 1 + 1 < W.heap.size := ho.lt
  have hba : Below W.heap.size W (W.alloc (.cells #[.bool k.s, .slice k.A k.xs.length k.a, .slice k.B k.ys.length k.b] 25)) := bl_al (.refl _ _) _
  have hO : Off [w.heap.size + 1 + 1 + 1] (W.alloc (.cells #[.bool k.s, .slice k.A k.xs.length k.a, .slice k.B k.ys.length k.b] 25)) ((((W.alloc (.cells #[.bool k.s, .slice k.A k.xs.length k.a, .slice k.B k.ys.length k.b] 25)).setCell ⟨w.heap.size + 1 + 1 + 1, 1, none⟩ (.bool k.s)).setCell ⟨w.heap.size + 1 + 1 + 1, 2, none⟩ (.slice k.A k.xs.length k.a)).setCell ⟨w.heap.size + 1 + 1 + 1, 3, none⟩ (.slice k.B k.ys.length k.b)) :=
    (((Off.refl _ _).setCell _ _ (.inl (by simp))).setCell _ _ (.inl (by simp))).setCell _ _ (.inl (by simp))
  have hk' := at_off (ho.next hba) (hk.next hba) hO
  have hkk := hk.next hba
  refine ⟨(bl_trans hw hba).trans (hO.below (bl_trans hw hba).size (fun b hb => by simp at hb; omega)), (hx.next hba).off hO (by (simp) <;> omega), (hy.next hba).off hO (by (simp) <;> omega), (hr.next hba).off hO (by simp), ((((ho.next hba).set (.bool k.s) rfl).set (.slice k.A k.xs.length k.a) rfl).set (.slice k.B k.ys.length k.b) rfl), (Bk.new _ _ W).off hO (by (simp) <;> omega), Gn.nil _ _, fun p hp => by simp at hp, hk', by omega, by omega, by omega, by simp [Value.ownBlock], by simp [Value.ownBlock]⟩
theorem geq_n (t : TypeId) (x y : Int) (b : Bool) (h : decide (y ≤ x) = b) : binOp .geq t (.int .i64 x) (.int .i64 y) = pure (.bool b) := by
  subst h
  rfl
theorem mrg_step_l {L M : List (Rat × Int)} {i j : Nat} (hi : i < L.length) (h : j = M.length ∨ ∃ hj : j < M.length, L[i].2 < M[j].2) : mrg (L.drop i) (M.drop j) = L[i] :: mrg (L.drop (i + 1)) (M.drop j) ∧ (mfB (L.drop i) (M.drop j) = true → mfB (L.drop (i + 1)) (M.drop j) = true) := by
  rw [List.drop_eq_getElem_cons hi]
  rcases h with rfl | ⟨hj, hlt⟩
  · rw [List.drop_length, mrg_nil', mrg_nil']
    exact ⟨rfl, fun _ => mfB_nil' _⟩
  · rw [List.drop_eq_getElem_cons hj, mrg_lt hlt, mfB_lt hlt]
    exact ⟨rfl, fun h => h⟩
theorem mrg_step_r {L M : List (Rat × Int)} {i j : Nat} (hj : j < M.length) (h : i = L.length ∨ ∃ hi : i < L.length, M[j].2 < L[i].2) : mrg (L.drop i) (M.drop j) = M[j] :: mrg (L.drop i) (M.drop (j + 1)) ∧ (mfB (L.drop i) (M.drop j) = true → mfB (L.drop i) (M.drop (j + 1)) = true) := by
  rw [List.drop_eq_getElem_cons hj]
  rcases h with rfl | ⟨hi, hlt⟩
  · rw [List.drop_length, mrg_nil, mrg_nil]
    exact ⟨rfl, fun _ => mfB_nil _⟩
  · rw [List.drop_eq_getElem_cons hi, mrg_gt hlt, mfB_gt hlt]
    exact ⟨rfl, fun h => h⟩
theorem mrg_step_b {L M : List (Rat × Int)} {i j : Nat} (hi : i < L.length) (hj : j < M.length) (he : L[i].2 = M[j].2) (hf : mfB (L.drop i) (M.drop j) = true) :
    fitB (L[i].1 + M[j].1) = true ∧ mfB (L.drop (i + 1)) (M.drop (j + 1)) = true ∧ (L[i].1 + M[j].1 = 0 → mrg (L.drop i) (M.drop j) = mrg (L.drop (i + 1)) (M.drop (j + 1))) ∧ (L[i].1 + M[j].1 ≠ 0 → mrg (L.drop i) (M.drop j) = (L[i].1 + M[j].1, L[i].2) :: mrg (L.drop (i + 1)) (M.drop (j + 1))) := by
  rw [List.drop_eq_getElem_cons hi, List.drop_eq_getElem_cons hj] at hf ⊢
  rw [mfB_eq he, Bool.and_eq_true] at hf
  exact ⟨hf.1, hf.2, fun h0 => mrg_zero he h0, fun h0 => mrg_sum he h0⟩

set_option maxHeartbeats 16000000 in
theorem raddp_ok (A B : Option Addr) (l m : List Pt) (kc kd : Nat) (c d : Pt) (w : World) (hl : Pl w A l) (hm : Pl w B m) (fl : ∀ p ∈ l, p.Ok) (fm : ∀ p ∈ m, p.Ok) (hc : c.At w) (hd : d.At w) (fc : c.Ok) (fd : d.Ok) (nl : l.length ≤ 1000) (nm : m.length ≤ 1000) (hf : mfB (l.map Pt.qt) (m.map Pt.qt) = true) (hfc : fitB (c.q + d.q) = true) :
    Calls Tryz.prog 55 #[polyV A l.length kc c, polyV B m.length kd d] w (PR w (mrg (l.map Pt.qt) (m.map Pt.qt)) (c.q + d.q)) := by
  have hP := hide (fun W (b : Below w.heap.size w W) => hl.next b)
  have hQ := hide (fun W (b : Below w.heap.size w W) => hm.next b)
  have hPg := hide (fun i (h : i < l.length) => (show ∃ g o, A = some ⟨g, o, none⟩ ∧ g < w.heap.size from by
    obtain ⟨g, o, e, ⟨c0, _⟩, _⟩ := hl.get h
    exact ⟨g, o, e, cell_in c0⟩))
  have hQg := hide (fun i (h : i < m.length) => (show ∃ g o, B = some ⟨g, o, none⟩ ∧ g < w.heap.size from by
    obtain ⟨g, o, e, ⟨c0, _⟩, _⟩ := hm.get h
    exact ⟨g, o, e, cell_in c0⟩))
  have hA := hide (fun W (b : Below w.heap.size w W) => radd_p fc fd W (hc.next b) (hd.next b) hfc)
  have hAd := hide (fun (p r : Pt) (hp : p ∈ l) (hr : r ∈ m) W (a : p.At W) (a' : r.At W) (h : fitB (p.q + r.q) = true) => radd_p (fl p hp) (fm r hr) W a a' h)
  have hst := hide (fun W (k : Pt) (b : Below ((V3 w c d A B l.length kc m.length kd).alloc (.cells zP 27)).heap.size ((V3 w c d A B l.length kc m.length kd).alloc (.cells zP 27)) W) (hk : k.At W) => Ra.start b hk)
  have hb0 : Below w.heap.size w ((V3 w c d A B l.length kc m.length kd).alloc (.cells zP 27)) := bl_al (bl_al (bl_al (bl_al (.refl _ _) _) _) _) _
  have hst0 := hide (Ax.start w c d A B l.length kc m.length kd 0 (Nat.zero_le _) (bl_al (.refl _ _) (.cells zP 27)))
  have hbo : Bk (w.heap.size + 1 + 1 + 1) zP 27 ((V3 w c d A B l.length kc m.length kd).alloc (.cells zP 27)) := by
    have := Bk.new zP 27 (V3 w c d A B l.length kc m.length kd)
    rwa [show (V3 w c d A B l.length kc m.length kd).heap.size = w.heap.size + 1 + 1 + 1 by simp [V3]] at this
  have hM0 := hide hf
  clear hl hm hc hd hf hfc fc fd
  obtain ⟨n, hn⟩ : ∃ n, n = l.length := ⟨_, rfl⟩
  obtain ⟨m', hm'⟩ : ∃ n, n = m.length := ⟨_, rfl⟩
  unfold polyV rv at *
  rw [← hn] at nl hst hst0 hb0 hbo ⊢
  rw [← hm'] at nm hst hst0 hb0 hbo ⊢
  replace hn := hide hn; replace hm' := hide hm'
  obtain ⟨_, ⟨x0, x1, x2, x3⟩, ⟨y0, y1, y2, y3⟩, _, _⟩ := hst0.out
  clear hst0
  have o0 := hbo.cell (j := 0) rfl
  have o1 := hbo.cell (j := 1) rfl
  have o2 := hbo.cell (j := 2) rfl
  have o3 := hbo.cell (j := 3) rfl
  have f1 := hbo.free 1
  have f2 := hbo.free 2
  have f3 := hbo.free 3
  have hbo' := hide hbo
  clear hbo
  unfold V3 zP at hst hb0 x0 x1 x2 x3 y0 y1 y2 y3 o0 o1 o2 o3 f1 f2 f3
  replace hst := hide hst.out
  replace hb0 := hide hb0
  replace fl := hide fl; replace fm := hide fm
  go_enter Tryz.func55, Tryz.ntmps55
  go_upto_region 6 with (go_at_call 69; (with_reducible refine (hA.out _ hb0.out).mono ?_); rintro e wa ⟨k, rfl, hkq, hkt, hkok, hka, hb⟩; clear x0 x1 x2 x3 y0 y1 y2 y3 o0 o1 o2 o3 f1 f2 f3; have X := hide (hst.out wa k hb hka); have hg := ((hbo'.out.next hb).al (.cells #[.bool k.s, .slice k.A k.xs.length k.a, .slice k.B k.ys.length k.b] 25)); have o1 := hg.cell (j := 1) rfl; have o2 := hg.cell (j := 2) rfl; have o3 := hg.cell (j := 3) rfl; have f1 := hg.free 1; have f2 := hg.free 2; have f3 := hg.free 3; clear hg hb hka hkt)
  clear o1 o2 o3 f1 f2 f3 hst hb0 hA hbo'
  generalize ((((World.alloc wa (.cells #[.bool k.s, .slice k.A k.xs.length k.a, .slice k.B k.ys.length k.b] 25)).setCell ⟨w.heap.size + 1 + 1 + 1, 1, none⟩ (.bool k.s)).setCell ⟨w.heap.size + 1 + 1 + 1, 2, none⟩ (.slice k.A k.xs.length k.a)).setCell ⟨w.heap.size + 1 + 1 + 1, 3, none⟩ (.slice k.B k.ys.length k.b)) = w6 at *
  generalize wa.heap.size = gc at *
  generalize hgo : w.heap.size + 1 + 1 + 1 = go at *
  replace hgo := hide hgo
  have hkq' := hide hkq; have hkok' := hide hkok
  clear hkq hkok
  go_wp2_with fail
  go_loopw [9, 10] (fun iv jv wr => ∃ (i j : Nat) (v : Value) (cv : Pt) (l' : List Pt), i ≤ n ∧ j ≤ m' ∧ iv = .int .i64 (i : Int) ∧ jv = .int .i64 (j : Int) ∧ l'.length ≤ i + j ∧ mrg (l.map Pt.qt) (m.map Pt.qt) = l'.map Pt.qt ++ mrg ((l.map Pt.qt).drop i) ((m.map Pt.qt).drop j) ∧ mfB ((l.map Pt.qt).drop i) ((m.map Pt.qt).drop j) = true ∧ Ra w c d A B n kc m' kd go gc k v cv l' wr) (fun iv jv _ => (n - (intOf iv).toNat) + (m' - (intOf jv).toNat))
  case atStart => exact ⟨0, 0, _, k, [], Nat.zero_le _, Nat.zero_le _, rfl, rfl, Nat.le_refl _, rfl, hM0.out, X.out⟩
  case round =>
    obtain ⟨i, j, v, cv, l', hi, hj, rfl, rfl, hll, hmrg, hmf, hX⟩ := hrel
    have hX2 := hide hX
    obtain ⟨x0, x1, x2, x3⟩ := hX.x
    obtain ⟨y0, y1, y2, y3⟩ := hX.y
    have hbw := hide hX.b
    replace hll := hide hll
    clear hX X hM0
    by_cases hi' : i < n
    · have hil : i < l.length := by rw [← hn.out]; exact hi'
      obtain ⟨g1, o1, rfl, ⟨c0, c1, c2, c3⟩, hat⟩ := (hP.out wr hbw.out).get hil
      have hg1 : g1 < w.heap.size := by
        obtain ⟨_, _, e, h⟩ := hPg.out i hil
        cases e
        exact h
      have okp := hide (fl.out l[i] (List.getElem_mem hil))
      have hiL : i < (l.map Pt.qt).length := by rw [List.length_map]; exact hil
      have hLi : (l.map Pt.qt)[i] = l[i].qt := List.getElem_map _
      have e1 := lss_b 3 (i : Int) (n : Int) true (decide_eq_true (by omega))
      have e2 := geq_n 3 (i : Int) (n : Int) false (decide_eq_false (by omega))
      by_cases hj' : j < m'
      · have hjl : j < m.length := by rw [← hm'.out]; exact hj'
        obtain ⟨g2, o2, rfl, ⟨d0, d1, d2, d3⟩, hat2⟩ := (hQ.out wr hbw.out).get hjl
        have hg2 : g2 < w.heap.size := by
          obtain ⟨_, _, e, h⟩ := hQg.out j hjl
          cases e
          exact h
        have okq := hide (fm.out m[j] (List.getElem_mem hjl))
        have hjM : j < (m.map Pt.qt).length := by rw [List.length_map]; exact hjl
        have hMj : (m.map Pt.qt)[j] = m[j].qt := List.getElem_map _
        have e3 := lss_b 3 (j : Int) (m' : Int) true (decide_eq_true (by omega))
        have e4 := geq_n 3 (j : Int) (m' : Int) false (decide_eq_false (by omega))
        have hAd1 := hide (fun W (a : l[i].At W) (a' : m[j].At W) (h : fitB (l[i].q + m[j].q) = true) => hAd.out l[i] m[j] (List.getElem_mem hil) (List.getElem_mem hjl) W a a' h)
        by_cases ht : l[i].t < m[j].t
        · have hs := mrg_step_l (L := l.map Pt.qt) (M := m.map Pt.qt) (i := i) (j := j) hiL (.inr ⟨hjM, by rw [hLi, hMj]; exact ht⟩)
          have e5 := lss_b 3 l[i].t m[j].t true (decide_eq_true ht)
          clear hAd1
          go_wp2_with fail
          go_quiet (fail)
          have hq9 : Below wr.heap.size wr (wr.drewN nq) := ((Off.refl [] wr).drewN _).below (Nat.le_refl _) (by simp)
          generalize wr.drewN nq = wx at *
          clear nq
          have hX3 := hide (hX2.out.next hq9)
          have pat := hide (hat.next hq9)
          have okP := okp
          have pc0 := cell_next hq9 c0
          have pc1 := cell_next hq9 c1
          have pc2 := cell_next hq9 c2
          have pc3 := cell_next hq9 c3
          obtain ⟨hs1, hs2⟩ := hs
          replace hs2 := hide (hs2 hmf)
          rw [hs1, hLi] at hmrg
          replace hmrg := hide hmrg
          have hq5 := hide (hq9.size)
          generalize l[i] = p at *
          generalize m[j] = q_ at *
          clear hmf hs1 hP hQ hPg hQg hAd fl fm x0 x1 x2 x3 y0 y1 y2 y3 c0 c1 c2 c3 d0 d1 d2 d3 hat hat2 okp okq hLi hMj e1 e2 e3 e4 e5 ht hiL hjM hil hjl hX2 hq9 hq5
          have hT : ∀ b, b ∈ v.ownBlock.toList → w.heap.size + 3 ≤ b := fun b hb => (hX3.out.gn.base b (Option.mem_toList.1 hb)).1
          have hgo2 : go ∉ v.ownBlock.toList := fun hm => hX3.out.ne.2.2.2.1 (Option.mem_toList.1 hm)
          have hsz : w.heap.size ≤ wx.heap.size := hX3.out.b.size
          have SS := hide (fun W (hO : Off v.ownBlock.toList wx W) => (show W.cell? ⟨go, 0, none⟩ = some v ∧ W.cell? ⟨w.heap.size, 0, none⟩ = some (.slice (some ⟨g1, o1, none⟩) n kc) ∧ (W.cell? ⟨g1, o1 + i * 4, none⟩ = some (.bool p.s) ∧ W.cell? ⟨g1, o1 + i * 4 + 1, none⟩ = some (.slice p.A p.xs.length p.a) ∧ W.cell? ⟨g1, o1 + i * 4 + 2, none⟩ = some (.slice p.B p.ys.length p.b) ∧ W.cell? ⟨g1, o1 + i * 4 + 3, none⟩ = some (.int .i64 p.t)) from
            ⟨(hX3.out.o.off hO hgo2).cell rfl, (hX3.out.x.off hO (fun hm => by have := hT _ hm; omega)).1, ⟨hO.cell pc0 (by show g1 < _; omega) (fun hm => by have h1 : w.heap.size + 3 ≤ g1 := hT _ hm; omega), hO.cell pc1 (by show g1 < _; omega) (fun hm => by have h1 : w.heap.size + 3 ≤ g1 := hT _ hm; omega), hO.cell pc2 (by show g1 < _; omega) (fun hm => by have h1 : w.heap.size + 3 ≤ g1 := hT _ hm; omega), hO.cell pc3 (by show g1 < _; omega) (fun hm => by have h1 : w.heap.size + 3 ≤ g1 := hT _ hm; omega)⟩⟩))
          clear pc0 pc1 pc2 pc3 hT hgo2 hsz
          go_wp2_with fail
          refine wp_region_T (fun W => W.cell? ⟨go, 0, none⟩ = some v ∧ W.cell? ⟨w.heap.size, 0, none⟩ = some (.slice (some ⟨g1, o1, none⟩) n kc) ∧ (W.cell? ⟨g1, o1 + i * 4, none⟩ = some (.bool p.s) ∧ W.cell? ⟨g1, o1 + i * 4 + 1, none⟩ = some (.slice p.A p.xs.length p.a) ∧ W.cell? ⟨g1, o1 + i * 4 + 2, none⟩ = some (.slice p.B p.ys.length p.b) ∧ W.cell? ⟨g1, o1 + i * 4 + 3, none⟩ = some (.int .i64 p.t))) 10 (by kernel_rfl) (SS.out _ ((Off.refl _ _).drew)) (fun hHeld => ?_)
          refine wpAnyT_take 12 (i := 0) (v := ?vvt1) (by (simp only [List.getElem?_toArray, List.getElem?_cons_zero, List.getElem?_cons_succ]) <;> rfl) (by kernel_rfl) (by kernel_rfl) (by kernel_rfl) (by kernel_rfl) (by kernel_rfl) (by rfl) ?hqt1 (Or.inl ⟨by rfl, ?hyt1⟩) (by assumption) ?_
          case hqt1 => exact fun _ _ _ h => h
          case hyt1 => ((intro w hSw; (try dsimp only at hSw); go_simp) <;> (with_reducible rfl))
          (try simp only [Act.put, List.setIfInBounds_toArray, List.set_cons_zero, List.set_cons_succ])
          refine wpAnyT_take 12 (i := 1) (v := ?vvt2) (by (simp only [List.getElem?_toArray, List.getElem?_cons_zero, List.getElem?_cons_succ]) <;> rfl) (by kernel_rfl) (by kernel_rfl) (by kernel_rfl) (by kernel_rfl) (by kernel_rfl) (by rfl) ?hqt2 (Or.inl ⟨by rfl, ?hyt2⟩) (by assumption) ?_
          case hqt2 => exact fun _ _ _ h => h
          case hyt2 => ((intro w hSw; (try dsimp only at hSw); go_simp) <;> (with_reducible rfl))
          (try simp only [Act.put, List.setIfInBounds_toArray, List.set_cons_zero, List.set_cons_succ])
          refine wpAnyT_take 12 (i := 2) (v := ?vvt3) (by (simp only [List.getElem?_toArray, List.getElem?_cons_zero, List.getElem?_cons_succ]) <;> rfl) (by kernel_rfl) (by kernel_rfl) (by kernel_rfl) (by kernel_rfl) (by kernel_rfl) (by rfl) ?hqt3 (Or.inl ⟨by rfl, ?hyt3⟩) (by assumption) ?_
          case hqt3 => exact fun _ _ _ h => h
          case hyt3 => ((intro w hSw; (try dsimp only at hSw); go_simp) <;> (with_reducible rfl))
          (try simp only [Act.put, List.setIfInBounds_toArray, List.set_cons_zero, List.set_cons_succ])
          refine wpAnyT_take 12 (i := 3) (v := ?vvt4) (by (simp only [List.getElem?_toArray, List.getElem?_cons_zero, List.getElem?_cons_succ]) <;> rfl) (by kernel_rfl) (by kernel_rfl) (by kernel_rfl) (by kernel_rfl) (by kernel_rfl) (by rfl) ?hqt4 (Or.inl ⟨by rfl, ?hyt4⟩) (by assumption) ?_
          case hqt4 => exact fun _ _ _ h => h
          case hyt4 => ((intro w hSw; (try dsimp only at hSw); go_simp) <;> (with_reducible rfl))
          (try simp only [Act.put, List.setIfInBounds_toArray, List.set_cons_zero, List.set_cons_succ])
          refine wpAnyT_take 12 (i := 4) (v := ?vvt5) (by (simp only [List.getElem?_toArray, List.getElem?_cons_zero, List.getElem?_cons_succ]) <;> rfl) (by kernel_rfl) (by kernel_rfl) (by kernel_rfl) (by kernel_rfl) (by kernel_rfl) (by rfl) ?hqt5 (Or.inl ⟨by rfl, ?hyt5⟩) (by assumption) ?_
          case hqt5 => exact fun _ _ _ h => h
          case hyt5 => ((intro w hSw; (try dsimp only at hSw); go_simp) <;> (with_reducible rfl))
          (try simp only [Act.put, List.setIfInBounds_toArray, List.set_cons_zero, List.set_cons_succ])
          refine wpAnyT_take 12 (i := 5) (v := ?vvt6) (by (simp only [List.getElem?_toArray, List.getElem?_cons_zero, List.getElem?_cons_succ]) <;> rfl) (by kernel_rfl) (by kernel_rfl) (by kernel_rfl) (by kernel_rfl) (by kernel_rfl) (by rfl) ?hqt6 (Or.inl ⟨by rfl, ?hyt6⟩) (by assumption) ?_
          case hqt6 => exact fun _ _ _ h => h
          case hyt6 => ((intro w hSw; (try dsimp only at hSw); go_simp) <;> (with_reducible rfl))
          (try simp only [Act.put, List.setIfInBounds_toArray, List.set_cons_zero, List.set_cons_succ])
          refine wpAnyT_take 12 (i := 6) (v := ?vvt7) (by (simp only [List.getElem?_toArray, List.getElem?_cons_zero, List.getElem?_cons_succ]) <;> rfl) (by kernel_rfl) (by kernel_rfl) (by kernel_rfl) (by kernel_rfl) (by kernel_rfl) (by rfl) ?hqt7 (Or.inl ⟨by rfl, ?hyt7⟩) (by assumption) ?_
          case hqt7 => exact fun _ _ _ h => h
          case hyt7 => ((intro w hSw; (try dsimp only at hSw); go_simp) <;> (with_reducible rfl))
          (try simp only [Act.put, List.setIfInBounds_toArray, List.set_cons_zero, List.set_cons_succ])
          refine wpAnyT_ready (rs := [7]) (by kernel_rfl) (by simp) ?_
          refine (AllReadyT.cons (by (simp only [List.getElem?_toArray, List.getElem?_cons_zero, List.getElem?_cons_succ]) <;> rfl) (fun K hK => ?_) AllReadyT.nil)
          rw [if_pos (by rfl)]
          refine wp_buildP 112 p _ _ rfl rfl rfl rfl ?_
          intro W10 hB10 hb10
          have hb10' := hide (bl_trans (ka0 wx) hb10)
          have hO10 := hide (((Off.refl v.ownBlock.toList wx).drew).trans (Off.of_below hb10 []) (by simp))
          replace hB10 := hide hB10
          clear hb10
          refine hK.out _ _ (by first | exact SS.out _ hO10.out | exact SS.out _ (hO10.out.trans hO11.out (fun b hb => .inl hb))) (fun hHeld => ?_)
          (try clear hK K)
          (try simp only [Act.put, List.setIfInBounds_toArray, List.set_cons_zero, List.set_cons_succ])
          refine wpAnyT_ready (rs := [8]) (by kernel_rfl) (by simp) ?_
          refine (AllReadyT.cons (by (simp only [List.getElem?_toArray, List.getElem?_cons_zero, List.getElem?_cons_succ]) <;> rfl) (fun K hK => ?_) AllReadyT.nil)
          rw [if_pos (by rfl)]
          refine wp_append_ex (.tmp 107) (.tmp 113) 22 rfl v (.slice (some ⟨_, 0, none⟩) 1 1) rfl rfl _ (Ra.push (hX3.out.next hb10'.out) p okP.out (pat.out.next hb10'.out) (by have := hll.out; omega) hB10.out) ?_
          rintro v11 W11 ⟨⟨g11, m11, rfl⟩, hO11, hB11, hX11⟩
          have k1 : W11.cell? ⟨go, 0, none⟩ = some v := hB11.cell rfl
          have k2 := hB11.free 0
          replace hO11 := hide hO11; replace hX11 := hide hX11
          clear hB11
          refine hK.out _ _ (by first | exact SS.out _ hO10.out | exact SS.out _ (hO10.out.trans hO11.out (fun b hb => .inl hb))) (fun hHeld => ?_)
          (try clear hK K)
          (try simp only [Act.put, List.setIfInBounds_toArray, List.set_cons_zero, List.set_cons_succ])
          refine wpAnyT_take 12 (i := 9) (v := ?vvt8) (by (simp only [List.getElem?_toArray, List.getElem?_cons_zero, List.getElem?_cons_succ]) <;> rfl) (by kernel_rfl) (by kernel_rfl) (by kernel_rfl) (by kernel_rfl) (by kernel_rfl) (by rfl) ?hqt8 (Or.inl ⟨by rfl, ?hyt8⟩) (by assumption) ?_
          case hqt8 => exact fun _ _ _ h => h
          case hyt8 => ((intro w hSw; (try dsimp only at hSw); go_simp) <;> (with_reducible rfl))
          (try simp only [Act.put, List.setIfInBounds_toArray, List.set_cons_zero, List.set_cons_succ])
          refine wpAnyT_ready (rs := [10]) (by kernel_rfl) (by simp) ?_
          refine (AllReadyT.last (by (simp only [List.getElem?_toArray, List.getElem?_cons_zero, List.getElem?_cons_succ]) <;> rfl) (by kernel_rfl) (fun K hK => ?_) AllReadyT.nil)
          go_simp
          refine hK.out _ _ ?_
          (try clear hK K)
          (try simp only [Act.put, List.setIfInBounds_toArray, List.set_cons_zero, List.set_cons_succ])
          refine wpAnyT_done (by kernel_rfl) ?_ _
          (try clear hHeld)
          go_wp2_with fail
          go_roundw
          case rel =>
            refine ⟨i + 1, j, _, cv, l' ++ [p], by omega, by omega, by go_num, (by first | rfl | rw [hjm]), by rw [List.length_append]; have := hll.out; simp; omega, ?_, hs2.out, hX11.out⟩
            rw [hmrg.out, List.map_append, List.append_assoc]
            rfl
          case measure => simp only [intOf]; omega
        · by_cases ht2 : m[j].t < l[i].t
          · have hs := mrg_step_r (L := l.map Pt.qt) (M := m.map Pt.qt) (i := i) (j := j) hjM (.inr ⟨hiL, by rw [hLi, hMj]; exact ht2⟩)
            have e5 := lss_b 3 l[i].t m[j].t false (decide_eq_false ht)
            have e6 := lss_b 3 m[j].t l[i].t true (decide_eq_true ht2)
            clear hAd1
            go_wp2_with fail
            go_quiet (fail)
            have hq9 : Below wr.heap.size wr (wr.drewN nq) := ((Off.refl [] wr).drewN _).below (Nat.le_refl _) (by simp)
            generalize wr.drewN nq = wx at *
            clear nq
            have hX3 := hide (hX2.out.next hq9)
            have hq1 := hq9
            clear hq9
            clear x0 x1 x2 x3 y0 y1 y2 y3
            obtain ⟨x0, x1, x2, x3⟩ := hX3.out.x
            obtain ⟨y0, y1, y2, y3⟩ := hX3.out.y
            have c3q := cell_next hq1 c3
            have d3q := cell_next hq1 d3
            go_wp2_with fail
            go_quiet (fail)
            have hq9 : Below wx.heap.size wx (wx.drewN nq) := ((Off.refl [] wx).drewN _).below (Nat.le_refl _) (by simp)
            generalize wx.drewN nq = wy at *
            clear nq
            replace hX3 := hide (hX3.out.next hq9)
            replace hq9 := bl_trans hq1 hq9
            clear hq1
            have pat := hide (hat2.next hq9)
            have okP := okq
            have pc0 := cell_next hq9 d0
            have pc1 := cell_next hq9 d1
            have pc2 := cell_next hq9 d2
            have pc3 := cell_next hq9 d3
            obtain ⟨hs1, hs2⟩ := hs
            replace hs2 := hide (hs2 hmf)
            rw [hs1, hMj] at hmrg
            replace hmrg := hide hmrg
            have hq5 := hide (hq9.size)
            generalize m[j] = p at *
            generalize l[i] = q_ at *
            clear hmf hs1 hP hQ hPg hQg hAd fl fm x0 x1 x2 x3 y0 y1 y2 y3 c3q d3q c0 c1 c2 c3 d0 d1 d2 d3 hat hat2 okp okq hLi hMj e1 e2 e3 e4 e5 e6 ht ht2 hiL hjM hil hjl hX2 hq9 hq5
            have hT : ∀ b, b ∈ v.ownBlock.toList → w.heap.size + 3 ≤ b := fun b hb => (hX3.out.gn.base b (Option.mem_toList.1 hb)).1
            have hgo2 : go ∉ v.ownBlock.toList := fun hm => hX3.out.ne.2.2.2.1 (Option.mem_toList.1 hm)
            have hsz : w.heap.size ≤ wy.heap.size := hX3.out.b.size
            have SS := hide (fun W (hO : Off v.ownBlock.toList wy W) => (show W.cell? ⟨go, 0, none⟩ = some v ∧ W.cell? ⟨w.heap.size + 1, 0, none⟩ = some (.slice (some ⟨g2, o2, none⟩) m' kd) ∧ (W.cell? ⟨g2, o2 + j * 4, none⟩ = some (.bool p.s) ∧ W.cell? ⟨g2, o2 + j * 4 + 1, none⟩ = some (.slice p.A p.xs.length p.a) ∧ W.cell? ⟨g2, o2 + j * 4 + 2, none⟩ = some (.slice p.B p.ys.length p.b) ∧ W.cell? ⟨g2, o2 + j * 4 + 3, none⟩ = some (.int .i64 p.t)) from
              ⟨(hX3.out.o.off hO hgo2).cell rfl, (hX3.out.y.off hO (fun hm => by have := hT _ hm; omega)).1, ⟨hO.cell pc0 (by show g2 < _; omega) (fun hm => by have h1 : w.heap.size + 3 ≤ g2 := hT _ hm; omega), hO.cell pc1 (by show g2 < _; omega) (fun hm => by have h1 : w.heap.size + 3 ≤ g2 := hT _ hm; omega), hO.cell pc2 (by show g2 < _; omega) (fun hm => by have h1 : w.heap.size + 3 ≤ g2 := hT _ hm; omega), hO.cell pc3 (by show g2 < _; omega) (fun hm => by have h1 : w.heap.size + 3 ≤ g2 := hT _ hm; omega)⟩⟩))
            clear pc0 pc1 pc2 pc3 hT hgo2 hsz
            go_wp2_with fail
            refine wp_region_T (fun W => W.cell? ⟨go, 0, none⟩ = some v ∧ W.cell? ⟨w.heap.size + 1, 0, none⟩ = some (.slice (some ⟨g2, o2, none⟩) m' kd) ∧ (W.cell? ⟨g2, o2 + j * 4, none⟩ = some (.bool p.s) ∧ W.cell? ⟨g2, o2 + j * 4 + 1, none⟩ = some (.slice p.A p.xs.length p.a) ∧ W.cell? ⟨g2, o2 + j * 4 + 2, none⟩ = some (.slice p.B p.ys.length p.b) ∧ W.cell? ⟨g2, o2 + j * 4 + 3, none⟩ = some (.int .i64 p.t))) 10 (by kernel_rfl) (SS.out _ ((Off.refl _ _).drew)) (fun hHeld => ?_)
            refine wpAnyT_take 12 (i := 0) (v := ?vvt17) (by (simp only [List.getElem?_toArray, List.getElem?_cons_zero, List.getElem?_cons_succ]) <;> rfl) (by kernel_rfl) (by kernel_rfl) (by kernel_rfl) (by kernel_rfl) (by kernel_rfl) (by rfl) ?hqt17 (Or.inl ⟨by rfl, ?hyt17⟩) (by assumption) ?_
            case hqt17 => exact fun _ _ _ h => h
            case hyt17 => ((intro w hSw; (try dsimp only at hSw); go_simp) <;> (with_reducible rfl))
            (try simp only [Act.put, List.setIfInBounds_toArray, List.set_cons_zero, List.set_cons_succ])
            refine wpAnyT_take 12 (i := 1) (v := ?vvt18) (by (simp only [List.getElem?_toArray, List.getElem?_cons_zero, List.getElem?_cons_succ]) <;> rfl) (by kernel_rfl) (by kernel_rfl) (by kernel_rfl) (by kernel_rfl) (by kernel_rfl) (by rfl) ?hqt18 (Or.inl ⟨by rfl, ?hyt18⟩) (by assumption) ?_
            case hqt18 => exact fun _ _ _ h => h
            case hyt18 => ((intro w hSw; (try dsimp only at hSw); go_simp) <;> (with_reducible rfl))
            (try simp only [Act.put, List.setIfInBounds_toArray, List.set_cons_zero, List.set_cons_succ])
            refine wpAnyT_take 12 (i := 2) (v := ?vvt19) (by (simp only [List.getElem?_toArray, List.getElem?_cons_zero, List.getElem?_cons_succ]) <;> rfl) (by kernel_rfl) (by kernel_rfl) (by kernel_rfl) (by kernel_rfl) (by kernel_rfl) (by rfl) ?hqt19 (Or.inl ⟨by rfl, ?hyt19⟩) (by assumption) ?_
            case hqt19 => exact fun _ _ _ h => h
            case hyt19 => ((intro w hSw; (try dsimp only at hSw); go_simp) <;> (with_reducible rfl))
            (try simp only [Act.put, List.setIfInBounds_toArray, List.set_cons_zero, List.set_cons_succ])
            refine wpAnyT_take 12 (i := 3) (v := ?vvt20) (by (simp only [List.getElem?_toArray, List.getElem?_cons_zero, List.getElem?_cons_succ]) <;> rfl) (by kernel_rfl) (by kernel_rfl) (by kernel_rfl) (by kernel_rfl) (by kernel_rfl) (by rfl) ?hqt20 (Or.inl ⟨by rfl, ?hyt20⟩) (by assumption) ?_
            case hqt20 => exact fun _ _ _ h => h
            case hyt20 => ((intro w hSw; (try dsimp only at hSw); go_simp) <;> (with_reducible rfl))
            (try simp only [Act.put, List.setIfInBounds_toArray, List.set_cons_zero, List.set_cons_succ])
            refine wpAnyT_take 12 (i := 4) (v := ?vvt21) (by (simp only [List.getElem?_toArray, List.getElem?_cons_zero, List.getElem?_cons_succ]) <;> rfl) (by kernel_rfl) (by kernel_rfl) (by kernel_rfl) (by kernel_rfl) (by kernel_rfl) (by rfl) ?hqt21 (Or.inl ⟨by rfl, ?hyt21⟩) (by assumption) ?_
            case hqt21 => exact fun _ _ _ h => h
            case hyt21 => ((intro w hSw; (try dsimp only at hSw); go_simp) <;> (with_reducible rfl))
            (try simp only [Act.put, List.setIfInBounds_toArray, List.set_cons_zero, List.set_cons_succ])
            refine wpAnyT_take 12 (i := 5) (v := ?vvt22) (by (simp only [List.getElem?_toArray, List.getElem?_cons_zero, List.getElem?_cons_succ]) <;> rfl) (by kernel_rfl) (by kernel_rfl) (by kernel_rfl) (by kernel_rfl) (by kernel_rfl) (by rfl) ?hqt22 (Or.inl ⟨by rfl, ?hyt22⟩) (by assumption) ?_
            case hqt22 => exact fun _ _ _ h => h
            case hyt22 => ((intro w hSw; (try dsimp only at hSw); go_simp) <;> (with_reducible rfl))
            (try simp only [Act.put, List.setIfInBounds_toArray, List.set_cons_zero, List.set_cons_succ])
            refine wpAnyT_take 12 (i := 6) (v := ?vvt23) (by (simp only [List.getElem?_toArray, List.getElem?_cons_zero, List.getElem?_cons_succ]) <;> rfl) (by kernel_rfl) (by kernel_rfl) (by kernel_rfl) (by kernel_rfl) (by kernel_rfl) (by rfl) ?hqt23 (Or.inl ⟨by rfl, ?hyt23⟩) (by assumption) ?_
            case hqt23 => exact fun _ _ _ h => h
            case hyt23 => ((intro w hSw; (try dsimp only at hSw); go_simp) <;> (with_reducible rfl))
            (try simp only [Act.put, List.setIfInBounds_toArray, List.set_cons_zero, List.set_cons_succ])
            refine wpAnyT_ready (rs := [7]) (by kernel_rfl) (by simp) ?_
            refine (AllReadyT.cons (by (simp only [List.getElem?_toArray, List.getElem?_cons_zero, List.getElem?_cons_succ]) <;> rfl) (fun K hK => ?_) AllReadyT.nil)
            rw [if_pos (by rfl)]
            refine wp_buildP 145 p _ _ rfl rfl rfl rfl ?_
            intro W10 hB10 hb10
            have hb10' := hide (bl_trans (ka0 wy) hb10)
            have hO10 := hide (((Off.refl v.ownBlock.toList wy).drew).trans (Off.of_below hb10 []) (by simp))
            replace hB10 := hide hB10
            clear hb10
            refine hK.out _ _ (by first | exact SS.out _ hO10.out | exact SS.out _ (hO10.out.trans hO11.out (fun b hb => .inl hb))) (fun hHeld => ?_)
            (try clear hK K)
            (try simp only [Act.put, List.setIfInBounds_toArray, List.set_cons_zero, List.set_cons_succ])
            refine wpAnyT_ready (rs := [8]) (by kernel_rfl) (by simp) ?_
            refine (AllReadyT.cons (by (simp only [List.getElem?_toArray, List.getElem?_cons_zero, List.getElem?_cons_succ]) <;> rfl) (fun K hK => ?_) AllReadyT.nil)
            rw [if_pos (by rfl)]
            refine wp_append_ex (.tmp 140) (.tmp 146) 22 rfl v (.slice (some ⟨_, 0, none⟩) 1 1) rfl rfl _ (Ra.push (hX3.out.next hb10'.out) p okP.out (pat.out.next hb10'.out) (by have := hll.out; omega) hB10.out) ?_
            rintro v11 W11 ⟨⟨g11, m11, rfl⟩, hO11, hB11, hX11⟩
            have k1 : W11.cell? ⟨go, 0, none⟩ = some v := hB11.cell rfl
            have k2 := hB11.free 0
            replace hO11 := hide hO11; replace hX11 := hide hX11
            clear hB11
            refine hK.out _ _ (by first | exact SS.out _ hO10.out | exact SS.out _ (hO10.out.trans hO11.out (fun b hb => .inl hb))) (fun hHeld => ?_)
            (try clear hK K)
            (try simp only [Act.put, List.setIfInBounds_toArray, List.set_cons_zero, List.set_cons_succ])
            refine wpAnyT_take 12 (i := 9) (v := ?vvt24) (by (simp only [List.getElem?_toArray, List.getElem?_cons_zero, List.getElem?_cons_succ]) <;> rfl) (by kernel_rfl) (by kernel_rfl) (by kernel_rfl) (by kernel_rfl) (by kernel_rfl) (by rfl) ?hqt24 (Or.inl ⟨by rfl, ?hyt24⟩) (by assumption) ?_
            case hqt24 => exact fun _ _ _ h => h
            case hyt24 => ((intro w hSw; (try dsimp only at hSw); go_simp) <;> (with_reducible rfl))
            (try simp only [Act.put, List.setIfInBounds_toArray, List.set_cons_zero, List.set_cons_succ])
            refine wpAnyT_ready (rs := [10]) (by kernel_rfl) (by simp) ?_
            refine (AllReadyT.last (by (simp only [List.getElem?_toArray, List.getElem?_cons_zero, List.getElem?_cons_succ]) <;> rfl) (by kernel_rfl) (fun K hK => ?_) AllReadyT.nil)
            go_simp
            refine hK.out _ _ ?_
            (try clear hK K)
            (try simp only [Act.put, List.setIfInBounds_toArray, List.set_cons_zero, List.set_cons_succ])
            refine wpAnyT_done (by kernel_rfl) ?_ _
            (try clear hHeld)
            go_wp2_with fail
            go_roundw
            case rel =>
              refine ⟨i, j + 1, _, cv, l' ++ [p], by omega, by omega, (by first | rfl | rw [hin]), by go_num, by rw [List.length_append]; have := hll.out; simp; omega, ?_, hs2.out, hX11.out⟩
              rw [hmrg.out, List.map_append, List.append_assoc]
              rfl
            case measure => simp only [intOf]; omega
          · have het : l[i].t = m[j].t := by omega
            have hs := mrg_step_b (L := l.map Pt.qt) (M := m.map Pt.qt) (i := i) (j := j) hiL hjM (by rw [hLi, hMj]; exact het) hmf
            have e5 := lss_b 3 l[i].t m[j].t false (decide_eq_false ht)
            have e6 := lss_b 3 m[j].t l[i].t false (decide_eq_false ht2)
            go_wp2_with fail
            go_quiet (fail)
            have hq9 : Below wr.heap.size wr (wr.drewN nq) := ((Off.refl [] wr).drewN _).below (Nat.le_refl _) (by simp)
            generalize wr.drewN nq = wx at *
            clear nq
            have hX3 := hide (hX2.out.next hq9)
            have hq1 := hq9
            clear hq9
            clear x0 x1 x2 x3 y0 y1 y2 y3
            obtain ⟨x0, x1, x2, x3⟩ := hX3.out.x
            obtain ⟨y0, y1, y2, y3⟩ := hX3.out.y
            have c3q := cell_next hq1 c3
            have d3q := cell_next hq1 d3
            go_wp2_with fail
            go_quiet (fail)
            have hq9 : Below wx.heap.size wx (wx.drewN nq) := ((Off.refl [] wx).drewN _).below (Nat.le_refl _) (by simp)
            generalize wx.drewN nq = wy at *
            clear nq
            replace hX3 := hide (hX3.out.next hq9)
            replace hq9 := bl_trans hq1 hq9
            clear hq1 c3q d3q
            have pa1 := hide (hat.next hq9)
            have pa2 := hide (hat2.next hq9)
            rw [hLi, hMj] at hs
            obtain ⟨hfit, hmf2, hz, hnz⟩ := hs
            replace hmf2 := hide hmf2
            have hmz : Hid (l[i].q + m[j].q = 0 → mrg (l.map Pt.qt) (m.map Pt.qt) = l'.map Pt.qt ++ mrg ((l.map Pt.qt).drop (i + 1)) ((m.map Pt.qt).drop (j + 1))) := hide (fun h => by rw [hmrg, hz h])
            have hmn : Hid (l[i].q + m[j].q ≠ 0 → mrg (l.map Pt.qt) (m.map Pt.qt) = l'.map Pt.qt ++ (l[i].q + m[j].q, l[i].t) :: mrg ((l.map Pt.qt).drop (i + 1)) ((m.map Pt.qt).drop (j + 1))) := hide (fun h => by rw [hmrg, hnz h]; rfl)
            have hAdd := hide (fun W (b : Below wy.heap.size wy W) => hAd1.out W (pa1.out.next b) (pa2.out.next b) hfit)
            have hsz : w.heap.size ≤ wy.heap.size := hX3.out.b.size
            obtain ⟨n1, n2, n3, n4, n5⟩ := hX3.out.ne
            have k0 := cell_next hq9 c0
            have k1 := cell_next hq9 c1
            have k2 := cell_next hq9 c2
            have k3 := cell_next hq9 c3
            have k4 := cell_next hq9 d0
            have k5 := cell_next hq9 d1
            have k6 := cell_next hq9 d2
            clear hmf hz hnz hmrg hP hQ hPg hQg hAd hAd1 fl fm x0 x1 x2 x3 y0 y1 y2 y3 c0 c1 c2 c3 d0 d1 d2 d3 hat hat2 okp okq hLi hMj e1 e2 e3 e4 e5 e6 hX2 pa1 pa2 hfit het ht ht2 hiL hjM
            generalize l[i] = p at *
            generalize m[j] = q_ at *
            clear hil hjl
            have SS := hide (fun W (hO : Off [gc] wy W) => (show W.cell? ⟨w.heap.size, 0, none⟩ = some (.slice (some ⟨g1, o1, none⟩) n kc) ∧ W.cell? ⟨w.heap.size + 1, 0, none⟩ = some (.slice (some ⟨g2, o2, none⟩) m' kd) ∧ (W.cell? ⟨g1, o1 + i * 4, none⟩ = some (.bool p.s) ∧ W.cell? ⟨g1, o1 + i * 4 + 1, none⟩ = some (.slice p.A p.xs.length p.a) ∧ W.cell? ⟨g1, o1 + i * 4 + 2, none⟩ = some (.slice p.B p.ys.length p.b)) ∧ (W.cell? ⟨g2, o2 + j * 4, none⟩ = some (.bool q_.s) ∧ W.cell? ⟨g2, o2 + j * 4 + 1, none⟩ = some (.slice q_.A q_.xs.length q_.a) ∧ W.cell? ⟨g2, o2 + j * 4 + 2, none⟩ = some (.slice q_.B q_.ys.length q_.b)) from
              ⟨(hX3.out.x.off hO (by simp; omega)).1, (hX3.out.y.off hO (by simp; omega)).1, ⟨hO.cell k0 (by show g1 < _; omega) (by simp; omega), hO.cell k1 (by show g1 < _; omega) (by simp; omega), hO.cell k2 (by show g1 < _; omega) (by simp; omega)⟩, ⟨hO.cell k4 (by show g2 < _; omega) (by simp; omega), hO.cell k5 (by show g2 < _; omega) (by simp; omega), hO.cell k6 (by show g2 < _; omega) (by simp; omega)⟩⟩))
            replace k3 := hide k3
            clear k0 k1 k2 k4 k5 k6
            go_wp2_with fail
            go_region_held3 (fun W => W.cell? ⟨w.heap.size, 0, none⟩ = some (.slice (some ⟨g1, o1, none⟩) n kc) ∧ W.cell? ⟨w.heap.size + 1, 0, none⟩ = some (.slice (some ⟨g2, o2, none⟩) m' kd) ∧ (W.cell? ⟨g1, o1 + i * 4, none⟩ = some (.bool p.s) ∧ W.cell? ⟨g1, o1 + i * 4 + 1, none⟩ = some (.slice p.A p.xs.length p.a) ∧ W.cell? ⟨g1, o1 + i * 4 + 2, none⟩ = some (.slice p.B p.ys.length p.b)) ∧ (W.cell? ⟨g2, o2 + j * 4, none⟩ = some (.bool q_.s) ∧ W.cell? ⟨g2, o2 + j * 4 + 1, none⟩ = some (.slice q_.A q_.xs.length q_.a) ∧ W.cell? ⟨g2, o2 + j * 4 + 2, none⟩ = some (.slice q_.B q_.ys.length q_.b)))
              (first
                | (with_reducible exact SS.out _ (Off.of_below (ka0 wy) _))
                | (with_reducible exact SS.out _ (Off.of_below bc _))
                | (with_reducible exact SS.out _ ((Off.of_below bc _).trans (off3 gc _ _ _ _) (fun b hb => .inl hb)))
                | fail)
              (first
                | (go_at_call 69; (with_reducible refine (hAdd.out _ (ka0 wy)).mono ?_); rintro e wz ⟨r, rfl, rq, rt, rok, rat, hb⟩; have bc := bl_trans (ka0 wy) hb; have hX4 := hide (hX3.out.next bc); have v0 := hX4.out.cb.cell (j := 0) rfl; have v1 := hX4.out.cb.cell (j := 1) rfl; have v2 := hX4.out.cb.cell (j := 2) rfl; have u0 := hX4.out.cb.free 0; have u1 := hX4.out.cb.free 1; have u2 := hX4.out.cb.free 2; clear hb)
                | fail)
            obtain ⟨hX5, hra⟩ := hX4.out.setc r rat
            have k3' := ((Off.of_below bc [gc]).trans (off3 gc wz (.bool r.s) (.slice r.A r.xs.length r.a) (.slice r.B r.ys.length r.b)) (fun b hb => .inl hb)).cell k3.out (by show g1 < _; omega) (by simp; omega)
            rw [← rt] at k3'
            clear v0 v1 v2 u0 u1 u2 SS hX4 hX3 bc rat hAdd k3 hsz hq9
            (try clear hHeld)
            generalize (((wz.setCell ⟨gc, 0, none⟩ (.bool r.s)).setCell ⟨gc, 1, none⟩ (.slice r.A r.xs.length r.a)).setCell ⟨gc, 2, none⟩ (.slice r.B r.ys.length r.b)) = wv at *
            have hbv : w.heap.size ≤ wv.heap.size := hX5.b.size
            replace hX5 := hide hX5
            replace hra := hide hra
            have y1 := hX5.out.cb.cell (j := 1) rfl
            have hlz : 0 < r.xs.length ↔ p.q + q_.q ≠ 0 := by
              rw [← rq, rok.x]
              exact q_zero_len r.q
            replace rok := hide rok; replace rq := hide rq; replace rt := hide rt
            obtain ⟨b, hb⟩ : ∃ b, decide ((0 : Int) < (r.xs.length : Int)) = b := ⟨_, rfl⟩
            have e7 := gtr_b 3 (r.xs.length : Int) 0 b hb
            cases b with
            | false =>
              have hzz := hide (hmz.out (Decidable.byContradiction fun h => by have h1 := hlz.2 h; have h2 := of_decide_eq_false hb; omega))
              clear hlz hb hmn hmz k3' hra
              go_wp2_with fail
              go_roundw
              case rel => exact ⟨i + 1, j + 1, v, r, l', by omega, by omega, by go_num, by go_num, by have := hll.out; omega, hzz.out, hmf2.out, hX5.out⟩
              case measure => simp only [intOf]; omega
            | true =>
              have hzz := hide (hmn.out (hlz.1 (by have h2 := of_decide_eq_true hb; omega)))
              clear hlz hb hmn hmz
              have hT : ∀ b, b ∈ v.ownBlock.toList → w.heap.size + 3 ≤ b := fun b hb => (hX5.out.gn.base b (Option.mem_toList.1 hb)).1
              have hgo2 : go ∉ v.ownBlock.toList := fun hm => n4 (Option.mem_toList.1 hm)
              have hgc2 : gc ∉ v.ownBlock.toList := fun hm => n5 (Option.mem_toList.1 hm)
              have SS := hide (fun W (hO : Off v.ownBlock.toList wv W) => (show W.cell? ⟨go, 0, none⟩ = some v ∧ W.cell? ⟨w.heap.size, 0, none⟩ = some (.slice (some ⟨g1, o1, none⟩) n kc) ∧ (W.cell? ⟨gc, 0, none⟩ = some (.bool r.s) ∧ W.cell? ⟨gc, 1, none⟩ = some (.slice r.A r.xs.length r.a) ∧ W.cell? ⟨gc, 2, none⟩ = some (.slice r.B r.ys.length r.b)) ∧ W.cell? ⟨g1, o1 + i * 4 + 3, none⟩ = some (.int .i64 r.t) from
                ⟨(hX5.out.o.off hO hgo2).cell rfl, (hX5.out.x.off hO (fun hm => by have := hT _ hm; omega)).1, ⟨(hX5.out.cb.off hO hgc2).cell rfl, (hX5.out.cb.off hO hgc2).cell rfl, (hX5.out.cb.off hO hgc2).cell rfl⟩, hO.cell k3' (by show g1 < _; omega) (fun hm => by have h1 : w.heap.size + 3 ≤ g1 := hT _ hm; omega)⟩))
              clear k3' hT hgo2 hgc2
              go_wp2_with fail
              refine wp_region_T (fun W => W.cell? ⟨go, 0, none⟩ = some v ∧ W.cell? ⟨w.heap.size, 0, none⟩ = some (.slice (some ⟨g1, o1, none⟩) n kc) ∧ (W.cell? ⟨gc, 0, none⟩ = some (.bool r.s) ∧ W.cell? ⟨gc, 1, none⟩ = some (.slice r.A r.xs.length r.a) ∧ W.cell? ⟨gc, 2, none⟩ = some (.slice r.B r.ys.length r.b)) ∧ W.cell? ⟨g1, o1 + i * 4 + 3, none⟩ = some (.int .i64 r.t)) 13 (by kernel_rfl) (SS.out _ ((Off.refl _ _).drew)) (fun hHeld => ?_)
              refine wpAnyT_take 12 (i := 0) (v := ?vvt33) (by (simp only [List.getElem?_toArray, List.getElem?_cons_zero, List.getElem?_cons_succ]) <;> rfl) (by kernel_rfl) (by kernel_rfl) (by kernel_rfl) (by kernel_rfl) (by kernel_rfl) (by rfl) ?hqt33 (Or.inl ⟨by rfl, ?hyt33⟩) (by assumption) ?_
              case hqt33 => exact fun _ _ _ h => h
              case hyt33 => ((intro w hSw; (try dsimp only at hSw); go_simp) <;> (with_reducible rfl))
              (try simp only [Act.put, List.setIfInBounds_toArray, List.set_cons_zero, List.set_cons_succ])
              refine wpAnyT_take 12 (i := 1) (v := ?vvt34) (by (simp only [List.getElem?_toArray, List.getElem?_cons_zero, List.getElem?_cons_succ]) <;> rfl) (by kernel_rfl) (by kernel_rfl) (by kernel_rfl) (by kernel_rfl) (by kernel_rfl) (by rfl) ?hqt34 (Or.inl ⟨by rfl, ?hyt34⟩) (by assumption) ?_
              case hqt34 => exact fun _ _ _ h => h
              case hyt34 => ((intro w hSw; (try dsimp only at hSw); go_simp) <;> (with_reducible rfl))
              (try simp only [Act.put, List.setIfInBounds_toArray, List.set_cons_zero, List.set_cons_succ])
              refine wpAnyT_take 12 (i := 2) (v := ?vvt35) (by (simp only [List.getElem?_toArray, List.getElem?_cons_zero, List.getElem?_cons_succ]) <;> rfl) (by kernel_rfl) (by kernel_rfl) (by kernel_rfl) (by kernel_rfl) (by kernel_rfl) (by rfl) ?hqt35 (Or.inl ⟨by rfl, ?hyt35⟩) (by assumption) ?_
              case hqt35 => exact fun _ _ _ h => h
              case hyt35 => ((intro w hSw; (try dsimp only at hSw); go_simp) <;> (with_reducible rfl))
              (try simp only [Act.put, List.setIfInBounds_toArray, List.set_cons_zero, List.set_cons_succ])
              refine wpAnyT_take 12 (i := 3) (v := ?vvt36) (by (simp only [List.getElem?_toArray, List.getElem?_cons_zero, List.getElem?_cons_succ]) <;> rfl) (by kernel_rfl) (by kernel_rfl) (by kernel_rfl) (by kernel_rfl) (by kernel_rfl) (by rfl) ?hqt36 (Or.inl ⟨by rfl, ?hyt36⟩) (by assumption) ?_
              case hqt36 => exact fun _ _ _ h => h
              case hyt36 => ((intro w hSw; (try dsimp only at hSw); go_simp) <;> (with_reducible rfl))
              (try simp only [Act.put, List.setIfInBounds_toArray, List.set_cons_zero, List.set_cons_succ])
              refine wpAnyT_take 12 (i := 4) (v := ?vvt37) (by (simp only [List.getElem?_toArray, List.getElem?_cons_zero, List.getElem?_cons_succ]) <;> rfl) (by kernel_rfl) (by kernel_rfl) (by kernel_rfl) (by kernel_rfl) (by kernel_rfl) (by rfl) ?hqt37 (Or.inl ⟨by rfl, ?hyt37⟩) (by assumption) ?_
              case hqt37 => exact fun _ _ _ h => h
              case hyt37 => ((intro w hSw; (try dsimp only at hSw); go_simp) <;> (with_reducible rfl))
              (try simp only [Act.put, List.setIfInBounds_toArray, List.set_cons_zero, List.set_cons_succ])
              refine wpAnyT_take 12 (i := 5) (v := ?vvt38) (by (simp only [List.getElem?_toArray, List.getElem?_cons_zero, List.getElem?_cons_succ]) <;> rfl) (by kernel_rfl) (by kernel_rfl) (by kernel_rfl) (by kernel_rfl) (by kernel_rfl) (by rfl) ?hqt38 (Or.inl ⟨by rfl, ?hyt38⟩) (by assumption) ?_
              case hqt38 => exact fun _ _ _ h => h
              case hyt38 => ((intro w hSw; (try dsimp only at hSw); go_simp) <;> (with_reducible rfl))
              (try simp only [Act.put, List.setIfInBounds_toArray, List.set_cons_zero, List.set_cons_succ])
              refine wpAnyT_take 12 (i := 6) (v := ?vvt39) (by (simp only [List.getElem?_toArray, List.getElem?_cons_zero, List.getElem?_cons_succ]) <;> rfl) (by kernel_rfl) (by kernel_rfl) (by kernel_rfl) (by kernel_rfl) (by kernel_rfl) (by rfl) ?hqt39 (Or.inl ⟨by rfl, ?hyt39⟩) (by assumption) ?_
              case hqt39 => exact fun _ _ _ h => h
              case hyt39 => ((intro w hSw; (try dsimp only at hSw); go_simp) <;> (with_reducible rfl))
              (try simp only [Act.put, List.setIfInBounds_toArray, List.set_cons_zero, List.set_cons_succ])
              refine wpAnyT_take 12 (i := 7) (v := ?vvt40) (by (simp only [List.getElem?_toArray, List.getElem?_cons_zero, List.getElem?_cons_succ]) <;> rfl) (by kernel_rfl) (by kernel_rfl) (by kernel_rfl) (by kernel_rfl) (by kernel_rfl) (by rfl) ?hqt40 (Or.inl ⟨by rfl, ?hyt40⟩) (by assumption) ?_
              case hqt40 => exact fun _ _ _ h => h
              case hyt40 => ((intro w hSw; (try dsimp only at hSw); go_simp) <;> (with_reducible rfl))
              (try simp only [Act.put, List.setIfInBounds_toArray, List.set_cons_zero, List.set_cons_succ])
              refine wpAnyT_take 12 (i := 8) (v := ?vvt41) (by (simp only [List.getElem?_toArray, List.getElem?_cons_zero, List.getElem?_cons_succ]) <;> rfl) (by kernel_rfl) (by kernel_rfl) (by kernel_rfl) (by kernel_rfl) (by kernel_rfl) (by rfl) ?hqt41 (Or.inl ⟨by rfl, ?hyt41⟩) (by assumption) ?_
              case hqt41 => exact fun _ _ _ h => h
              case hyt41 => ((intro w hSw; (try dsimp only at hSw); go_simp) <;> (with_reducible rfl))
              (try simp only [Act.put, List.setIfInBounds_toArray, List.set_cons_zero, List.set_cons_succ])
              refine wpAnyT_take 12 (i := 9) (v := ?vvt42) (by (simp only [List.getElem?_toArray, List.getElem?_cons_zero, List.getElem?_cons_succ]) <;> rfl) (by kernel_rfl) (by kernel_rfl) (by kernel_rfl) (by kernel_rfl) (by kernel_rfl) (by rfl) ?hqt42 (Or.inl ⟨by rfl, ?hyt42⟩) (by assumption) ?_
              case hqt42 => exact fun _ _ _ h => h
              case hyt42 => ((intro w hSw; (try dsimp only at hSw); go_simp) <;> (with_reducible rfl))
              (try simp only [Act.put, List.setIfInBounds_toArray, List.set_cons_zero, List.set_cons_succ])
              refine wpAnyT_ready (rs := [10]) (by kernel_rfl) (by simp) ?_
              refine (AllReadyT.cons (by (simp only [List.getElem?_toArray, List.getElem?_cons_zero, List.getElem?_cons_succ]) <;> rfl) (fun K hK => ?_) AllReadyT.nil)
              rw [if_pos (by rfl)]
              refine wp_buildP 70 r _ _ rfl rfl rfl rfl ?_
              intro W10 hB10 hb10
              have hb10' := hide (bl_trans (ka0 wv) hb10)
              have hO10 := hide (((Off.refl v.ownBlock.toList wv).drew).trans (Off.of_below hb10 []) (by simp))
              replace hB10 := hide hB10
              clear hb10
              refine hK.out _ _ (by first | exact SS.out _ hO10.out | exact SS.out _ (hO10.out.trans hO11.out (fun b hb => .inl hb))) (fun hHeld => ?_)
              (try clear hK K)
              (try simp only [Act.put, List.setIfInBounds_toArray, List.set_cons_zero, List.set_cons_succ])
              refine wpAnyT_ready (rs := [11]) (by kernel_rfl) (by simp) ?_
              refine (AllReadyT.cons (by (simp only [List.getElem?_toArray, List.getElem?_cons_zero, List.getElem?_cons_succ]) <;> rfl) (fun K hK => ?_) AllReadyT.nil)
              rw [if_pos (by rfl)]
              refine wp_append_ex (.tmp 62) (.tmp 71) 22 rfl v (.slice (some ⟨_, 0, none⟩) 1 1) rfl rfl _ (Ra.push (hX5.out.next hb10'.out) r rok.out (hra.out.next hb10'.out) (by have := hll.out; omega) hB10.out) ?_
              rintro v11 W11 ⟨⟨g11, m11, rfl⟩, hO11, hB11, hX11⟩
              have k1 : W11.cell? ⟨go, 0, none⟩ = some v := hB11.cell rfl
              have k2 := hB11.free 0
              replace hO11 := hide hO11; replace hX11 := hide hX11
              clear hB11
              refine hK.out _ _ (by first | exact SS.out _ hO10.out | exact SS.out _ (hO10.out.trans hO11.out (fun b hb => .inl hb))) (fun hHeld => ?_)
              (try clear hK K)
              (try simp only [Act.put, List.setIfInBounds_toArray, List.set_cons_zero, List.set_cons_succ])
              refine wpAnyT_take 12 (i := 12) (v := ?vvt43) (by (simp only [List.getElem?_toArray, List.getElem?_cons_zero, List.getElem?_cons_succ]) <;> rfl) (by kernel_rfl) (by kernel_rfl) (by kernel_rfl) (by kernel_rfl) (by kernel_rfl) (by rfl) ?hqt43 (Or.inl ⟨by rfl, ?hyt43⟩) (by assumption) ?_
              case hqt43 => exact fun _ _ _ h => h
              case hyt43 => ((intro w hSw; (try dsimp only at hSw); go_simp) <;> (with_reducible rfl))
              (try simp only [Act.put, List.setIfInBounds_toArray, List.set_cons_zero, List.set_cons_succ])
              refine wpAnyT_ready (rs := [13]) (by kernel_rfl) (by simp) ?_
              refine (AllReadyT.last (by (simp only [List.getElem?_toArray, List.getElem?_cons_zero, List.getElem?_cons_succ]) <;> rfl) (by kernel_rfl) (fun K hK => ?_) AllReadyT.nil)
              go_simp
              refine hK.out _ _ ?_
              (try clear hK K)
              (try simp only [Act.put, List.setIfInBounds_toArray, List.set_cons_zero, List.set_cons_succ])
              refine wpAnyT_done (by kernel_rfl) ?_ _
              (try clear hHeld)
              go_wp2_with fail
              go_roundw
              case rel =>
                refine ⟨i + 1, j + 1, _, r, l' ++ [r], by omega, by omega, by go_num, by go_num, by rw [List.length_append]; have := hll.out; simp; omega, ?_, hmf2.out, hX11.out⟩
                rw [hzz.out, List.map_append, List.append_assoc]
                show _ = _ ++ (r.q, r.t) :: _
                rw [rq.out, rt.out]
                rfl
              case measure => simp only [intOf]; omega
      · have hjm : j = m' := by omega
        have hs := mrg_step_l (L := l.map Pt.qt) (M := m.map Pt.qt) (i := i) (j := j) hiL (.inl (by rw [List.length_map]; exact hjm.trans hm'.out))
        have e3 := lss_b 3 (j : Int) (m' : Int) false (decide_eq_false (by omega))
        have e4 := geq_n 3 (j : Int) (m' : Int) true (decide_eq_true (by omega))
        go_wp2_with fail
        go_quiet (fail)
        have hq9 : Below wr.heap.size wr (wr.drewN nq) := ((Off.refl [] wr).drewN _).below (Nat.le_refl _) (by simp)
        generalize wr.drewN nq = wx at *
        clear nq
        have hX3 := hide (hX2.out.next hq9)
        have pat := hide (hat.next hq9)
        have okP := okp
        have pc0 := cell_next hq9 c0
        have pc1 := cell_next hq9 c1
        have pc2 := cell_next hq9 c2
        have pc3 := cell_next hq9 c3
        obtain ⟨hs1, hs2⟩ := hs
        replace hs2 := hide (hs2 hmf)
        rw [hs1, hLi] at hmrg
        replace hmrg := hide hmrg
        have hq5 := hide (hq9.size)
        generalize l[i] = p at *
        clear hmf hs1 hP hQ hPg hQg hAd fl fm x0 x1 x2 x3 y0 y1 y2 y3 c0 c1 c2 c3 hat okp hLi e1 e2 e3 e4 hiL hil hX2 hq9 hq5
        have hT : ∀ b, b ∈ v.ownBlock.toList → w.heap.size + 3 ≤ b := fun b hb => (hX3.out.gn.base b (Option.mem_toList.1 hb)).1
        have hgo2 : go ∉ v.ownBlock.toList := fun hm => hX3.out.ne.2.2.2.1 (Option.mem_toList.1 hm)
        have hsz : w.heap.size ≤ wx.heap.size := hX3.out.b.size
        have SS := hide (fun W (hO : Off v.ownBlock.toList wx W) => (show W.cell? ⟨go, 0, none⟩ = some v ∧ W.cell? ⟨w.heap.size, 0, none⟩ = some (.slice (some ⟨g1, o1, none⟩) n kc) ∧ (W.cell? ⟨g1, o1 + i * 4, none⟩ = some (.bool p.s) ∧ W.cell? ⟨g1, o1 + i * 4 + 1, none⟩ = some (.slice p.A p.xs.length p.a) ∧ W.cell? ⟨g1, o1 + i * 4 + 2, none⟩ = some (.slice p.B p.ys.length p.b) ∧ W.cell? ⟨g1, o1 + i * 4 + 3, none⟩ = some (.int .i64 p.t)) from
          ⟨(hX3.out.o.off hO hgo2).cell rfl, (hX3.out.x.off hO (fun hm => by have := hT _ hm; omega)).1, ⟨hO.cell pc0 (by show g1 < _; omega) (fun hm => by have h1 : w.heap.size + 3 ≤ g1 := hT _ hm; omega), hO.cell pc1 (by show g1 < _; omega) (fun hm => by have h1 : w.heap.size + 3 ≤ g1 := hT _ hm; omega), hO.cell pc2 (by show g1 < _; omega) (fun hm => by have h1 : w.heap.size + 3 ≤ g1 := hT _ hm; omega), hO.cell pc3 (by show g1 < _; omega) (fun hm => by have h1 : w.heap.size + 3 ≤ g1 := hT _ hm; omega)⟩⟩))
        clear pc0 pc1 pc2 pc3 hT hgo2 hsz
        go_wp2_with fail
        refine wp_region_T (fun W => W.cell? ⟨go, 0, none⟩ = some v ∧ W.cell? ⟨w.heap.size, 0, none⟩ = some (.slice (some ⟨g1, o1, none⟩) n kc) ∧ (W.cell? ⟨g1, o1 + i * 4, none⟩ = some (.bool p.s) ∧ W.cell? ⟨g1, o1 + i * 4 + 1, none⟩ = some (.slice p.A p.xs.length p.a) ∧ W.cell? ⟨g1, o1 + i * 4 + 2, none⟩ = some (.slice p.B p.ys.length p.b) ∧ W.cell? ⟨g1, o1 + i * 4 + 3, none⟩ = some (.int .i64 p.t))) 10 (by kernel_rfl) (SS.out _ ((Off.refl _ _).drew)) (fun hHeld => ?_)
        refine wpAnyT_take 12 (i := 0) (v := ?vvt9) (by (simp only [List.getElem?_toArray, List.getElem?_cons_zero, List.getElem?_cons_succ]) <;> rfl) (by kernel_rfl) (by kernel_rfl) (by kernel_rfl) (by kernel_rfl) (by kernel_rfl) (by rfl) ?hqt9 (Or.inl ⟨by rfl, ?hyt9⟩) (by assumption) ?_
        case hqt9 => exact fun _ _ _ h => h
        case hyt9 => ((intro w hSw; (try dsimp only at hSw); go_simp) <;> (with_reducible rfl))
        (try simp only [Act.put, List.setIfInBounds_toArray, List.set_cons_zero, List.set_cons_succ])
        refine wpAnyT_take 12 (i := 1) (v := ?vvt10) (by (simp only [List.getElem?_toArray, List.getElem?_cons_zero, List.getElem?_cons_succ]) <;> rfl) (by kernel_rfl) (by kernel_rfl) (by kernel_rfl) (by kernel_rfl) (by kernel_rfl) (by rfl) ?hqt10 (Or.inl ⟨by rfl, ?hyt10⟩) (by assumption) ?_
        case hqt10 => exact fun _ _ _ h => h
        case hyt10 => ((intro w hSw; (try dsimp only at hSw); go_simp) <;> (with_reducible rfl))
        (try simp only [Act.put, List.setIfInBounds_toArray, List.set_cons_zero, List.set_cons_succ])
        refine wpAnyT_take 12 (i := 2) (v := ?vvt11) (by (simp only [List.getElem?_toArray, List.getElem?_cons_zero, List.getElem?_cons_succ]) <;> rfl) (by kernel_rfl) (by kernel_rfl) (by kernel_rfl) (by kernel_rfl) (by kernel_rfl) (by rfl) ?hqt11 (Or.inl ⟨by rfl, ?hyt11⟩) (by assumption) ?_
        case hqt11 => exact fun _ _ _ h => h
        case hyt11 => ((intro w hSw; (try dsimp only at hSw); go_simp) <;> (with_reducible rfl))
        (try simp only [Act.put, List.setIfInBounds_toArray, List.set_cons_zero, List.set_cons_succ])
        refine wpAnyT_take 12 (i := 3) (v := ?vvt12) (by (simp only [List.getElem?_toArray, List.getElem?_cons_zero, List.getElem?_cons_succ]) <;> rfl) (by kernel_rfl) (by kernel_rfl) (by kernel_rfl) (by kernel_rfl) (by kernel_rfl) (by rfl) ?hqt12 (Or.inl ⟨by rfl, ?hyt12⟩) (by assumption) ?_
        case hqt12 => exact fun _ _ _ h => h
        case hyt12 => ((intro w hSw; (try dsimp only at hSw); go_simp) <;> (with_reducible rfl))
        (try simp only [Act.put, List.setIfInBounds_toArray, List.set_cons_zero, List.set_cons_succ])
        refine wpAnyT_take 12 (i := 4) (v := ?vvt13) (by (simp only [List.getElem?_toArray, List.getElem?_cons_zero, List.getElem?_cons_succ]) <;> rfl) (by kernel_rfl) (by kernel_rfl) (by kernel_rfl) (by kernel_rfl) (by kernel_rfl) (by rfl) ?hqt13 (Or.inl ⟨by rfl, ?hyt13⟩) (by assumption) ?_
        case hqt13 => exact fun _ _ _ h => h
        case hyt13 => ((intro w hSw; (try dsimp only at hSw); go_simp) <;> (with_reducible rfl))
        (try simp only [Act.put, List.setIfInBounds_toArray, List.set_cons_zero, List.set_cons_succ])
        refine wpAnyT_take 12 (i := 5) (v := ?vvt14) (by (simp only [List.getElem?_toArray, List.getElem?_cons_zero, List.getElem?_cons_succ]) <;> rfl) (by kernel_rfl) (by kernel_rfl) (by kernel_rfl) (by kernel_rfl) (by kernel_rfl) (by rfl) ?hqt14 (Or.inl ⟨by rfl, ?hyt14⟩) (by assumption) ?_
        case hqt14 => exact fun _ _ _ h => h
        case hyt14 => ((intro w hSw; (try dsimp only at hSw); go_simp) <;> (with_reducible rfl))
        (try simp only [Act.put, List.setIfInBounds_toArray, List.set_cons_zero, List.set_cons_succ])
        refine wpAnyT_take 12 (i := 6) (v := ?vvt15) (by (simp only [List.getElem?_toArray, List.getElem?_cons_zero, List.getElem?_cons_succ]) <;> rfl) (by kernel_rfl) (by kernel_rfl) (by kernel_rfl) (by kernel_rfl) (by kernel_rfl) (by rfl) ?hqt15 (Or.inl ⟨by rfl, ?hyt15⟩) (by assumption) ?_
        case hqt15 => exact fun _ _ _ h => h
        case hyt15 => ((intro w hSw; (try dsimp only at hSw); go_simp) <;> (with_reducible rfl))
        (try simp only [Act.put, List.setIfInBounds_toArray, List.set_cons_zero, List.set_cons_succ])
        refine wpAnyT_ready (rs := [7]) (by kernel_rfl) (by simp) ?_
        refine (AllReadyT.cons (by (simp only [List.getElem?_toArray, List.getElem?_cons_zero, List.getElem?_cons_succ]) <;> rfl) (fun K hK => ?_) AllReadyT.nil)
        rw [if_pos (by rfl)]
        refine wp_buildP 112 p _ _ rfl rfl rfl rfl ?_
        intro W10 hB10 hb10
        have hb10' := hide (bl_trans (ka0 wx) hb10)
        have hO10 := hide (((Off.refl v.ownBlock.toList wx).drew).trans (Off.of_below hb10 []) (by simp))
        replace hB10 := hide hB10
        clear hb10
        refine hK.out _ _ (by first | exact SS.out _ hO10.out | exact SS.out _ (hO10.out.trans hO11.out (fun b hb => .inl hb))) (fun hHeld => ?_)
        (try clear hK K)
        (try simp only [Act.put, List.setIfInBounds_toArray, List.set_cons_zero, List.set_cons_succ])
        refine wpAnyT_ready (rs := [8]) (by kernel_rfl) (by simp) ?_
        refine (AllReadyT.cons (by (simp only [List.getElem?_toArray, List.getElem?_cons_zero, List.getElem?_cons_succ]) <;> rfl) (fun K hK => ?_) AllReadyT.nil)
        rw [if_pos (by rfl)]
        refine wp_append_ex (.tmp 107) (.tmp 113) 22 rfl v (.slice (some ⟨_, 0, none⟩) 1 1) rfl rfl _ (Ra.push (hX3.out.next hb10'.out) p okP.out (pat.out.next hb10'.out) (by have := hll.out; omega) hB10.out) ?_
        rintro v11 W11 ⟨⟨g11, m11, rfl⟩, hO11, hB11, hX11⟩
        have k1 : W11.cell? ⟨go, 0, none⟩ = some v := hB11.cell rfl
        have k2 := hB11.free 0
        replace hO11 := hide hO11; replace hX11 := hide hX11
        clear hB11
        refine hK.out _ _ (by first | exact SS.out _ hO10.out | exact SS.out _ (hO10.out.trans hO11.out (fun b hb => .inl hb))) (fun hHeld => ?_)
        (try clear hK K)
        (try simp only [Act.put, List.setIfInBounds_toArray, List.set_cons_zero, List.set_cons_succ])
        refine wpAnyT_take 12 (i := 9) (v := ?vvt16) (by (simp only [List.getElem?_toArray, List.getElem?_cons_zero, List.getElem?_cons_succ]) <;> rfl) (by kernel_rfl) (by kernel_rfl) (by kernel_rfl) (by kernel_rfl) (by kernel_rfl) (by rfl) ?hqt16 (Or.inl ⟨by rfl, ?hyt16⟩) (by assumption) ?_
        case hqt16 => exact fun _ _ _ h => h
        case hyt16 => ((intro w hSw; (try dsimp only at hSw); go_simp) <;> (with_reducible rfl))
        (try simp only [Act.put, List.setIfInBounds_toArray, List.set_cons_zero, List.set_cons_succ])
        refine wpAnyT_ready (rs := [10]) (by kernel_rfl) (by simp) ?_
        refine (AllReadyT.last (by (simp only [List.getElem?_toArray, List.getElem?_cons_zero, List.getElem?_cons_succ]) <;> rfl) (by kernel_rfl) (fun K hK => ?_) AllReadyT.nil)
        go_simp
        refine hK.out _ _ ?_
        (try clear hK K)
        (try simp only [Act.put, List.setIfInBounds_toArray, List.set_cons_zero, List.set_cons_succ])
        refine wpAnyT_done (by kernel_rfl) ?_ _
        (try clear hHeld)
        go_wp2_with fail
        go_roundw
        case rel =>
          refine ⟨i + 1, j, _, cv, l' ++ [p], by omega, by omega, by go_num, (by first | rfl | rw [hjm]), by rw [List.length_append]; have := hll.out; simp; omega, ?_, hs2.out, hX11.out⟩
          rw [hmrg.out, List.map_append, List.append_assoc]
          rfl
        case measure => simp only [intOf]; omega
    · have hin : i = n := by omega
      have e1 := lss_b 3 (i : Int) (n : Int) false (decide_eq_false (by omega))
      have e2 := geq_n 3 (i : Int) (n : Int) true (decide_eq_true (by omega))
      by_cases hj' : j < m'
      · have hjl : j < m.length := by rw [← hm'.out]; exact hj'
        obtain ⟨g2, o2, rfl, ⟨d0, d1, d2, d3⟩, hat2⟩ := (hQ.out wr hbw.out).get hjl
        have hg2 : g2 < w.heap.size := by
          obtain ⟨_, _, e, h⟩ := hQg.out j hjl
          cases e
          exact h
        have okq := hide (fm.out m[j] (List.getElem_mem hjl))
        have hjM : j < (m.map Pt.qt).length := by rw [List.length_map]; exact hjl
        have hMj : (m.map Pt.qt)[j] = m[j].qt := List.getElem_map _
        have hs := mrg_step_r (L := l.map Pt.qt) (M := m.map Pt.qt) (i := i) (j := j) hjM (.inl (by rw [List.length_map]; exact hin.trans hn.out))
        have e3 := lss_b 3 (j : Int) (m' : Int) true (decide_eq_true (by omega))
        have e4 := geq_n 3 (j : Int) (m' : Int) false (decide_eq_false (by omega))
        go_wp2_with fail
        go_quiet (fail)
        have hq9 : Below wr.heap.size wr (wr.drewN nq) := ((Off.refl [] wr).drewN _).below (Nat.le_refl _) (by simp)
        generalize wr.drewN nq = wx at *
        clear nq
        have hX3 := hide (hX2.out.next hq9)
        have hq1 := hq9
        clear hq9
        clear x0 x1 x2 x3 y0 y1 y2 y3
        obtain ⟨x0, x1, x2, x3⟩ := hX3.out.x
        obtain ⟨y0, y1, y2, y3⟩ := hX3.out.y
        go_wp2_with fail
        go_quiet (fail)
        have hq9 : Below wx.heap.size wx (wx.drewN nq) := ((Off.refl [] wx).drewN _).below (Nat.le_refl _) (by simp)
        generalize wx.drewN nq = wy at *
        clear nq
        replace hX3 := hide (hX3.out.next hq9)
        replace hq9 := bl_trans hq1 hq9
        clear hq1
        have pat := hide (hat2.next hq9)
        have okP := okq
        have pc0 := cell_next hq9 d0
        have pc1 := cell_next hq9 d1
        have pc2 := cell_next hq9 d2
        have pc3 := cell_next hq9 d3
        obtain ⟨hs1, hs2⟩ := hs
        replace hs2 := hide (hs2 hmf)
        rw [hs1, hMj] at hmrg
        replace hmrg := hide hmrg
        have hq5 := hide (hq9.size)
        generalize m[j] = p at *
        clear hmf hs1 hP hQ hPg hQg hAd fl fm x0 x1 x2 x3 y0 y1 y2 y3 d0 d1 d2 d3 hat2 okq hMj e1 e2 e3 e4 hjM hjl hX2 hq9 hq5
        have hT : ∀ b, b ∈ v.ownBlock.toList → w.heap.size + 3 ≤ b := fun b hb => (hX3.out.gn.base b (Option.mem_toList.1 hb)).1
        have hgo2 : go ∉ v.ownBlock.toList := fun hm => hX3.out.ne.2.2.2.1 (Option.mem_toList.1 hm)
        have hsz : w.heap.size ≤ wy.heap.size := hX3.out.b.size
        have SS := hide (fun W (hO : Off v.ownBlock.toList wy W) => (show W.cell? ⟨go, 0, none⟩ = some v ∧ W.cell? ⟨w.heap.size + 1, 0, none⟩ = some (.slice (some ⟨g2, o2, none⟩) m' kd) ∧ (W.cell? ⟨g2, o2 + j * 4, none⟩ = some (.bool p.s) ∧ W.cell? ⟨g2, o2 + j * 4 + 1, none⟩ = some (.slice p.A p.xs.length p.a) ∧ W.cell? ⟨g2, o2 + j * 4 + 2, none⟩ = some (.slice p.B p.ys.length p.b) ∧ W.cell? ⟨g2, o2 + j * 4 + 3, none⟩ = some (.int .i64 p.t)) from
          ⟨(hX3.out.o.off hO hgo2).cell rfl, (hX3.out.y.off hO (fun hm => by have := hT _ hm; omega)).1, ⟨hO.cell pc0 (by show g2 < _; omega) (fun hm => by have h1 : w.heap.size + 3 ≤ g2 := hT _ hm; omega), hO.cell pc1 (by show g2 < _; omega) (fun hm => by have h1 : w.heap.size + 3 ≤ g2 := hT _ hm; omega), hO.cell pc2 (by show g2 < _; omega) (fun hm => by have h1 : w.heap.size + 3 ≤ g2 := hT _ hm; omega), hO.cell pc3 (by show g2 < _; omega) (fun hm => by have h1 : w.heap.size + 3 ≤ g2 := hT _ hm; omega)⟩⟩))
        clear pc0 pc1 pc2 pc3 hT hgo2 hsz
        go_wp2_with fail
        refine wp_region_T (fun W => W.cell? ⟨go, 0, none⟩ = some v ∧ W.cell? ⟨w.heap.size + 1, 0, none⟩ = some (.slice (some ⟨g2, o2, none⟩) m' kd) ∧ (W.cell? ⟨g2, o2 + j * 4, none⟩ = some (.bool p.s) ∧ W.cell? ⟨g2, o2 + j * 4 + 1, none⟩ = some (.slice p.A p.xs.length p.a) ∧ W.cell? ⟨g2, o2 + j * 4 + 2, none⟩ = some (.slice p.B p.ys.length p.b) ∧ W.cell? ⟨g2, o2 + j * 4 + 3, none⟩ = some (.int .i64 p.t))) 10 (by kernel_rfl) (SS.out _ ((Off.refl _ _).drew)) (fun hHeld => ?_)
        refine wpAnyT_take 12 (i := 0) (v := ?vvt25) (by (simp only [List.getElem?_toArray, List.getElem?_cons_zero, List.getElem?_cons_succ]) <;> rfl) (by kernel_rfl) (by kernel_rfl) (by kernel_rfl) (by kernel_rfl) (by kernel_rfl) (by rfl) ?hqt25 (Or.inl ⟨by rfl, ?hyt25⟩) (by assumption) ?_
        case hqt25 => exact fun _ _ _ h => h
        case hyt25 => ((intro w hSw; (try dsimp only at hSw); go_simp) <;> (with_reducible rfl))
        (try simp only [Act.put, List.setIfInBounds_toArray, List.set_cons_zero, List.set_cons_succ])
        refine wpAnyT_take 12 (i := 1) (v := ?vvt26) (by (simp only [List.getElem?_toArray, List.getElem?_cons_zero, List.getElem?_cons_succ]) <;> rfl) (by kernel_rfl) (by kernel_rfl) (by kernel_rfl) (by kernel_rfl) (by kernel_rfl) (by rfl) ?hqt26 (Or.inl ⟨by rfl, ?hyt26⟩) (by assumption) ?_
        case hqt26 => exact fun _ _ _ h => h
        case hyt26 => ((intro w hSw; (try dsimp only at hSw); go_simp) <;> (with_reducible rfl))
        (try simp only [Act.put, List.setIfInBounds_toArray, List.set_cons_zero, List.set_cons_succ])
        refine wpAnyT_take 12 (i := 2) (v := ?vvt27) (by (simp only [List.getElem?_toArray, List.getElem?_cons_zero, List.getElem?_cons_succ]) <;> rfl) (by kernel_rfl) (by kernel_rfl) (by kernel_rfl) (by kernel_rfl) (by kernel_rfl) (by rfl) ?hqt27 (Or.inl ⟨by rfl, ?hyt27⟩) (by assumption) ?_
        case hqt27 => exact fun _ _ _ h => h
        case hyt27 => ((intro w hSw; (try dsimp only at hSw); go_simp) <;> (with_reducible rfl))
        (try simp only [Act.put, List.setIfInBounds_toArray, List.set_cons_zero, List.set_cons_succ])
        refine wpAnyT_take 12 (i := 3) (v := ?vvt28) (by (simp only [List.getElem?_toArray, List.getElem?_cons_zero, List.getElem?_cons_succ]) <;> rfl) (by kernel_rfl) (by kernel_rfl) (by kernel_rfl) (by kernel_rfl) (by kernel_rfl) (by rfl) ?hqt28 (Or.inl ⟨by rfl, ?hyt28⟩) (by assumption) ?_
        case hqt28 => exact fun _ _ _ h => h
        case hyt28 => ((intro w hSw; (try dsimp only at hSw); go_simp) <;> (with_reducible rfl))
        (try simp only [Act.put, List.setIfInBounds_toArray, List.set_cons_zero, List.set_cons_succ])
        refine wpAnyT_take 12 (i := 4) (v := ?vvt29) (by (simp only [List.getElem?_toArray, List.getElem?_cons_zero, List.getElem?_cons_succ]) <;> rfl) (by kernel_rfl) (by kernel_rfl) (by kernel_rfl) (by kernel_rfl) (by kernel_rfl) (by rfl) ?hqt29 (Or.inl ⟨by rfl, ?hyt29⟩) (by assumption) ?_
        case hqt29 => exact fun _ _ _ h => h
        case hyt29 => ((intro w hSw; (try dsimp only at hSw); go_simp) <;> (with_reducible rfl))
        (try simp only [Act.put, List.setIfInBounds_toArray, List.set_cons_zero, List.set_cons_succ])
        refine wpAnyT_take 12 (i := 5) (v := ?vvt30) (by (simp only [List.getElem?_toArray, List.getElem?_cons_zero, List.getElem?_cons_succ]) <;> rfl) (by kernel_rfl) (by kernel_rfl) (by kernel_rfl) (by kernel_rfl) (by kernel_rfl) (by rfl) ?hqt30 (Or.inl ⟨by rfl, ?hyt30⟩) (by assumption) ?_
        case hqt30 => exact fun _ _ _ h => h
        case hyt30 => ((intro w hSw; (try dsimp only at hSw); go_simp) <;> (with_reducible rfl))
        (try simp only [Act.put, List.setIfInBounds_toArray, List.set_cons_zero, List.set_cons_succ])
        refine wpAnyT_take 12 (i := 6) (v := ?vvt31) (by (simp only [List.getElem?_toArray, List.getElem?_cons_zero, List.getElem?_cons_succ]) <;> rfl) (by kernel_rfl) (by kernel_rfl) (by kernel_rfl) (by kernel_rfl) (by kernel_rfl) (by rfl) ?hqt31 (Or.inl ⟨by rfl, ?hyt31⟩) (by assumption) ?_
        case hqt31 => exact fun _ _ _ h => h
        case hyt31 => ((intro w hSw; (try dsimp only at hSw); go_simp) <;> (with_reducible rfl))
        (try simp only [Act.put, List.setIfInBounds_toArray, List.set_cons_zero, List.set_cons_succ])
        refine wpAnyT_ready (rs := [7]) (by kernel_rfl) (by simp) ?_
        refine (AllReadyT.cons (by (simp only [List.getElem?_toArray, List.getElem?_cons_zero, List.getElem?_cons_succ]) <;> rfl) (fun K hK => ?_) AllReadyT.nil)
        rw [if_pos (by rfl)]
        refine wp_buildP 145 p _ _ rfl rfl rfl rfl ?_
        intro W10 hB10 hb10
        have hb10' := hide (bl_trans (ka0 wy) hb10)
        have hO10 := hide (((Off.refl v.ownBlock.toList wy).drew).trans (Off.of_below hb10 []) (by simp))
        replace hB10 := hide hB10
        clear hb10
        refine hK.out _ _ (by first | exact SS.out _ hO10.out | exact SS.out _ (hO10.out.trans hO11.out (fun b hb => .inl hb))) (fun hHeld => ?_)
        (try clear hK K)
        (try simp only [Act.put, List.setIfInBounds_toArray, List.set_cons_zero, List.set_cons_succ])
        refine wpAnyT_ready (rs := [8]) (by kernel_rfl) (by simp) ?_
        refine (AllReadyT.cons (by (simp only [List.getElem?_toArray, List.getElem?_cons_zero, List.getElem?_cons_succ]) <;> rfl) (fun K hK => ?_) AllReadyT.nil)
        rw [if_pos (by rfl)]
        refine wp_append_ex (.tmp 140) (.tmp 146) 22 rfl v (.slice (some ⟨_, 0, none⟩) 1 1) rfl rfl _ (Ra.push (hX3.out.next hb10'.out) p okP.out (pat.out.next hb10'.out) (by have := hll.out; omega) hB10.out) ?_
        rintro v11 W11 ⟨⟨g11, m11, rfl⟩, hO11, hB11, hX11⟩
        have k1 : W11.cell? ⟨go, 0, none⟩ = some v := hB11.cell rfl
        have k2 := hB11.free 0
        replace hO11 := hide hO11; replace hX11 := hide hX11
        clear hB11
        refine hK.out _ _ (by first | exact SS.out _ hO10.out | exact SS.out _ (hO10.out.trans hO11.out (fun b hb => .inl hb))) (fun hHeld => ?_)
        (try clear hK K)
        (try simp only [Act.put, List.setIfInBounds_toArray, List.set_cons_zero, List.set_cons_succ])
        refine wpAnyT_take 12 (i := 9) (v := ?vvt32) (by (simp only [List.getElem?_toArray, List.getElem?_cons_zero, List.getElem?_cons_succ]) <;> rfl) (by kernel_rfl) (by kernel_rfl) (by kernel_rfl) (by kernel_rfl) (by kernel_rfl) (by rfl) ?hqt32 (Or.inl ⟨by rfl, ?hyt32⟩) (by assumption) ?_
        case hqt32 => exact fun _ _ _ h => h
        case hyt32 => ((intro w hSw; (try dsimp only at hSw); go_simp) <;> (with_reducible rfl))
        (try simp only [Act.put, List.setIfInBounds_toArray, List.set_cons_zero, List.set_cons_succ])
        refine wpAnyT_ready (rs := [10]) (by kernel_rfl) (by simp) ?_
        refine (AllReadyT.last (by (simp only [List.getElem?_toArray, List.getElem?_cons_zero, List.getElem?_cons_succ]) <;> rfl) (by kernel_rfl) (fun K hK => ?_) AllReadyT.nil)
        go_simp
        refine hK.out _ _ ?_
        (try clear hK K)
        (try simp only [Act.put, List.setIfInBounds_toArray, List.set_cons_zero, List.set_cons_succ])
        refine wpAnyT_done (by kernel_rfl) ?_ _
        (try clear hHeld)
        go_wp2_with fail
        go_roundw
        case rel =>
          refine ⟨i, j + 1, _, cv, l' ++ [p], by omega, by omega, (by first | rfl | rw [hin]), by go_num, by rw [List.length_append]; have := hll.out; simp; omega, ?_, hs2.out, hX11.out⟩
          rw [hmrg.out, List.map_append, List.append_assoc]
          rfl
        case measure => simp only [intOf]; omega
      · have hjm : j = m' := by omega
        have e3 := lss_b 3 (j : Int) (m' : Int) false (decide_eq_false (by omega))
        have hend : mrg (l.map Pt.qt) (m.map Pt.qt) = l'.map Pt.qt := by
          have d1 : (l.map Pt.qt).drop n = [] := List.drop_eq_nil_of_le (by rw [List.length_map, hn.out]; exact Nat.le_refl _)
          have d2 : (m.map Pt.qt).drop m' = [] := List.drop_eq_nil_of_le (by rw [List.length_map, hm'.out]; exact Nat.le_refl _)
          rw [hmrg, hin, hjm, d1, d2, mrg_nil, List.append_nil]
        obtain ⟨A', k', rfl, hPR⟩ := hX2.out.done hkok'.out
        have q0 := hX2.out.o.cell (j := 0) rfl
        have q1 := hX2.out.o.cell (j := 1) rfl
        have q2 := hX2.out.o.cell (j := 2) rfl
        have q3 := hX2.out.o.cell (j := 3) rfl
        have r0 := hX2.out.r.cell (j := 0) rfl
        have r1 := hX2.out.r.cell (j := 1) rfl
        have r2 := hX2.out.r.cell (j := 2) rfl
        have r3 := hX2.out.r.cell (j := 3) rfl
        have s0 := hX2.out.r.free 0
        have s1 := hX2.out.r.free 1
        have s2 := hX2.out.r.free 2
        have s3 := hX2.out.r.free 3
        rw [← hend, hkq'.out] at hPR
        replace hPR := hide hPR
        clear hX2 hP hQ hPg hQg hAd fl fm hmrg hmf hend
        go_wp2_with fail
        exact bodyPost_ret (v := .tuple #[.agg #[.slice A' l'.length k', .bool k.s, .slice k.A k.xs.length k.a, .slice k.B k.ys.length k.b], .int .i64 0]) (by simp [results, Tryz.results55, go_sem, r0, r1, r2, r3]) rfl hPR.out
end Nt
end Go.Proofs.YtgimmmmpollkhaaGreat
namespace Go.Proofs.YtgimmmmpollkhaaGreat
open Go.ChangeShapes Go.RowKit
namespace Nt
set_option maxRecDepth 100000
set_option linter.unusedSimpArgs false
set_option linter.unusedVariables false

set_option maxHeartbeats 8000000 in
/-- linear.Add, of what may not be. -/
theorem rsum_no (A B : Option Addr) (l m : List Pt) (kc kd : Nat) (c d : Pt) (w : World) (hl : Pl w A l) (hm : Pl w B m) (fl : ∀ p ∈ l, p.Few) (fm : ∀ p ∈ m, p.Few) (hc : c.At w) (hd : d.At w) (fc : c.Few) (fd : d.Few) (nl : l.length ≤ 1000) (nm : m.length ≤ 1000) (hno : (pvB (-1) l && c.ok) = false ∨ (pvB (-1) m && d.ok) = false) :
    Calls Tryz.prog 13 #[polyV A l.length kc c, polyV B m.length kd d] w (PNo 1 w) := by
  obtain ⟨v1, h1⟩ : ∃ v, (pvB (-1) l && c.ok) = v := ⟨_, rfl⟩
  obtain ⟨v2, h2⟩ : ∃ v, (pvB (-1) m && d.ok) = v := ⟨_, rfl⟩
  have hV := hide (fun W (b : Below w.heap.size w W) => rvalidP_any A l kc c W (hl.next b) (hc.next b) fl fc nl v1 h1)
  have hK := hide (fun W (b : Below w.heap.size w W) => rvalidP_any B m kd d W (hm.next b) (hd.next b) fm fd nm v2 h2)
  rw [h1, h2] at hno
  obtain ⟨n, hnn⟩ : ∃ n, n = l.length := ⟨_, rfl⟩
  obtain ⟨k, hkk⟩ : ∃ k, k = m.length := ⟨_, rfl⟩
  have hst := hide (fun W (b : Below (V3 w c d A B n kc k kd).heap.size (V3 w c d A B n kc k kd) W) => (Ax.start w c d A B n kc k kd 0 (by omega) b).2)
  have hb0 : Below w.heap.size w (V3 w c d A B n kc k kd) := bl_al (bl_al (bl_al (.refl _ _) _) _) _
  have hbz := hide (hst.out _ (Below.refl _ _))
  clear hl hm fl fm hc hd fc fd h1 h2
  rw [← hnn] at hV
  rw [← hkk] at hK
  rw [← hnn, ← hkk]
  clear hnn hkk
  unfold polyV at *
  unfold V3 zP at hb0 hst hbz
  replace hst := hide hst.out
  replace hb0 := hide hb0
  generalize c.xs.length = i1 at *
  generalize c.ys.length = i2 at *
  generalize d.xs.length = j1 at *
  generalize d.ys.length = j2 at *
  obtain ⟨⟨x0, x1, x2, x3⟩, ⟨y0, y1, y2, y3⟩, _⟩ := hbz.out
  cases v1 with
  | false =>
    clear hno
    go_enter Tryz.func13, Tryz.ntmps13
    go_wp2_with (go_at_call 26; (with_reducible refine (hV.out _ hb0.out).mono ?_); rintro e w1 ⟨rfl, hb⟩; clear x0 x1 x2 x3 y0 y1 y2 y3; obtain ⟨_, _, hX, hbw⟩ := hst.out w1 hb; have r0 := hX.cell (j := 0) rfl; have r1 := hX.cell (j := 1) rfl; have r2 := hX.cell (j := 2) rfl; have r3 := hX.cell (j := 3) rfl; have s0 := hX.free 0; have s1 := hX.free 1; have s2 := hX.free 2; have s3 := hX.free 3; clear hX; replace hbw := hide hbw; clear hb)
    have hO4 := off4 (w.heap.size + 1 + 1) w1 (.slice none 0 0) (.bool false) (.slice none 0 0) (.slice none 0 0)
    exact bodyPost_ret (v := .tuple #[.agg #[.slice none 0 0, .bool false, .slice none 0 0, .slice none 0 0], .int .i64 1]) (by simp [results, Tryz.results13, go_sem, r0, r1, r2, r3]) rfl ⟨rfl, hbw.out.trans (hO4.below hbw.out.size (fun b hb => by simp at hb; omega))⟩
  | true =>
    obtain rfl : v2 = false := by rcases hno with h | h; cases h; exact h
    clear hno
    go_enter Tryz.func13, Tryz.ntmps13
    go_wp2_with (first
      | (go_at_call 26; (with_reducible refine (hV.out _ hb0.out).mono ?_); rintro e w1 ⟨rfl, hb⟩; clear x0 x1 x2 x3 y0 y1 y2 y3; obtain ⟨⟨x0, x1, x2, x3⟩, ⟨y0, y1, y2, y3⟩, _, hbw⟩ := hst.out w1 hb; replace hbw := hide hbw; replace hb := hide hb; clear hV)
      | (go_at_call 26; (with_reducible refine (hK.out _ hbw.out).mono ?_); rintro e w2 ⟨rfl, hb2⟩; clear x0 x1 x2 x3 y0 y1 y2 y3; obtain ⟨_, _, hX, hbw2⟩ := hst.out w2 (bl_trans hb.out hb2); have r0 := hX.cell (j := 0) rfl; have r1 := hX.cell (j := 1) rfl; have r2 := hX.cell (j := 2) rfl; have r3 := hX.cell (j := 3) rfl; have s0 := hX.free 0; have s1 := hX.free 1; have s2 := hX.free 2; have s3 := hX.free 3; clear hX; replace hbw2 := hide hbw2; clear hb2))
    have hO4 := off4 (w.heap.size + 1 + 1) w2 (.slice none 0 0) (.bool false) (.slice none 0 0) (.slice none 0 0)
    exact bodyPost_ret (v := .tuple #[.agg #[.slice none 0 0, .bool false, .slice none 0 0, .slice none 0 0], .int .i64 1]) (by simp [results, Tryz.results13, go_sem, r0, r1, r2, r3]) rfl ⟨rfl, hbw2.out.trans (hO4.below hbw2.out.size (fun b hb => by simp at hb; omega))⟩
set_option maxHeartbeats 8000000 in
/-- linear.Scale, of what may not be. -/
theorem rscale_no (A : Option Addr) (l : List Pt) (kc : Nat) (c kk : Pt) (w : World) (hl : Pl w A l) (fl : ∀ p ∈ l, p.Few) (hc : c.At w) (fc : c.Few) (hk : kk.At w) (fk : kk.Few) (hn : l.length ≤ 1000) (hno : (pvB (-1) l && c.ok) = false ∨ kk.ok = false) :
    Calls Tryz.prog 15 #[polyV A l.length kc c, rv kk] w (PNo 1 w) := by
  obtain ⟨v1, h1⟩ : ∃ v, (pvB (-1) l && c.ok) = v := ⟨_, rfl⟩
  obtain ⟨v2, h2⟩ : ∃ v, kk.ok = v := ⟨_, rfl⟩
  have hV := hide (fun W (b : Below w.heap.size w W) => rvalidP_any A l kc c W (hl.next b) (hc.next b) fl fc hn v1 h1)
  have hK := hide (fun W (b : Below w.heap.size w W) => rvalidQ_any kk.s kk.A kk.B kk.a kk.b kk.xs kk.ys W (hk.next b).1 (hk.next b).2 fk.lx fk.ly fk.mx fk.my v2 h2)
  rw [h1, h2] at hno
  obtain ⟨n, hnn⟩ : ∃ n, n = l.length := ⟨_, rfl⟩
  have hst := hide (fun W (b : Below (W3 w c kk A n kc).heap.size (W3 w c kk A n kc) W) => (Sx.start w c kk A n kc (by omega) b).2)
  have hb0 : Below w.heap.size w (W3 w c kk A n kc) := bl_al (bl_al (bl_al (.refl _ _) _) _) _
  have hbz := hide (hst.out _ (Below.refl _ _))
  clear hl fl hc fc hk fk h1 h2
  rw [← hnn] at hV ⊢
  clear hnn
  unfold polyV rv at *
  unfold W3 zP at hb0 hst hbz
  replace hst := hide hst.out
  replace hb0 := hide hb0
  generalize c.xs.length = i1 at *
  generalize c.ys.length = i2 at *
  generalize kk.xs.length = j1 at *
  generalize kk.ys.length = j2 at *
  obtain ⟨⟨x0, x1, x2, x3⟩, ⟨y0, y1, y2⟩, _⟩ := hbz.out
  cases v1 with
  | false =>
    clear hno
    go_enter Tryz.func15, Tryz.ntmps15
    go_wp2_with (go_at_call 26; (with_reducible refine (hV.out _ hb0.out).mono ?_); rintro e w1 ⟨rfl, hb⟩; clear x0 x1 x2 x3 y0 y1 y2; obtain ⟨_, _, hX, hbw⟩ := hst.out w1 hb; have r0 := hX.cell (j := 0) rfl; have r1 := hX.cell (j := 1) rfl; have r2 := hX.cell (j := 2) rfl; have r3 := hX.cell (j := 3) rfl; have s0 := hX.free 0; have s1 := hX.free 1; have s2 := hX.free 2; have s3 := hX.free 3; clear hX; replace hbw := hide hbw; clear hb)
    have hO4 := off4 (w.heap.size + 1 + 1) w1 (.slice none 0 0) (.bool false) (.slice none 0 0) (.slice none 0 0)
    exact bodyPost_ret (v := .tuple #[.agg #[.slice none 0 0, .bool false, .slice none 0 0, .slice none 0 0], .int .i64 1]) (by simp [results, Tryz.results15, go_sem, r0, r1, r2, r3]) rfl ⟨rfl, hbw.out.trans (hO4.below hbw.out.size (fun b hb => by simp at hb; omega))⟩
  | true =>
    obtain rfl : v2 = false := by rcases hno with h | h; cases h; exact h
    clear hno
    go_enter Tryz.func15, Tryz.ntmps15
    go_wp2_with (first
      | (go_at_call 26; (with_reducible refine (hV.out _ hb0.out).mono ?_); rintro e w1 ⟨rfl, hb⟩; clear x0 x1 x2 x3 y0 y1 y2; obtain ⟨⟨x0, x1, x2, x3⟩, ⟨y0, y1, y2⟩, _, hbw⟩ := hst.out w1 hb; replace hbw := hide hbw; replace hb := hide hb)
      | (go_at_call 30; (with_reducible refine (hK.out _ hbw.out).mono ?_); rintro e w2 ⟨rfl, hb2⟩; clear x0 x1 x2 x3 y0 y1 y2; obtain ⟨_, _, hX, hbw2⟩ := hst.out w2 (bl_trans hb.out hb2); have r0 := hX.cell (j := 0) rfl; have r1 := hX.cell (j := 1) rfl; have r2 := hX.cell (j := 2) rfl; have r3 := hX.cell (j := 3) rfl; have s0 := hX.free 0; have s1 := hX.free 1; have s2 := hX.free 2; have s3 := hX.free 3; clear hX; replace hbw2 := hide hbw2; clear hb2))
    have hO4 := off4 (w.heap.size + 1 + 1) w2 (.slice none 0 0) (.bool false) (.slice none 0 0) (.slice none 0 0)
    exact bodyPost_ret (v := .tuple #[.agg #[.slice none 0 0, .bool false, .slice none 0 0, .slice none 0 0], .int .i64 1]) (by simp [results, Tryz.results15, go_sem, r0, r1, r2, r3]) rfl ⟨rfl, hbw2.out.trans (hO4.below hbw2.out.size (fun b hb => by simp at hb; omega))⟩
/-- A sum that is stored into the result's box. -/
theorem pr_done {w W : World} {g : Nat} {L : List (Rat × Int)} {q : Rat} {A : Option Addr} {k : Nat} {l : List Pt} {c : Pt} (hbw : Below w.heap.size w W) (hR : Bk g zP 27 W) (hg : w.heap.size ≤ g) (m : l.map Pt.qt = L) (hq : c.q = q) (hP : Pl W A l) (ha : c.At W) (ok : ∀ p ∈ l, p.Ok) (hc : c.Ok) (hy : l.length ≤ k) (hx : k ≤ maxLen) :
    PR w L q (.returned (.tuple #[.agg #[.slice A l.length k, .bool c.s, .slice c.A c.xs.length c.a, .slice c.B c.ys.length c.b], .int .i64 0])) ((((W.setCell ⟨g, 0, none⟩ (.slice A l.length k)).setCell ⟨g, 1, none⟩ (.bool c.s)).setCell ⟨g, 2, none⟩ (.slice c.A c.xs.length c.a)).setCell ⟨g, 3, none⟩ (.slice c.B c.ys.length c.b)) :=
  ⟨A, k, l, c, rfl, m, hq, pl_off hR hP (off4 _ _ _ _ _ _), at_off hR ha (off4 _ _ _ _ _ _), ok, hc, hbw.trans ((off4 _ _ _ _ _ _).below hbw.size (fun b hb => by simp at hb; omega)), hy, hx⟩
set_option maxHeartbeats 4000000 in
theorem rsum_ok (A B : Option Addr) (l m : List Pt) (kc kd : Nat) (c d : Pt) (w : World) (hl : Pl w A l) (hm : Pl w B m) (fl : ∀ p ∈ l, p.Ok) (fm : ∀ p ∈ m, p.Ok) (vl : pvB (-1) l = true) (vm : pvB (-1) m = true) (hc : c.At w) (hd : d.At w) (fc : c.Ok) (fd : d.Ok) (nl : l.length ≤ 1000) (nm : m.length ≤ 1000) (hf : mfB (l.map Pt.qt) (m.map Pt.qt) = true) (hfc : fitB (c.q + d.q) = true) :
    Calls Tryz.prog 13 #[polyV A l.length kc c, polyV B m.length kd d] w (PR w (mrg (l.map Pt.qt) (m.map Pt.qt)) (c.q + d.q)) := by
  have hV := hide (fun W (b : Below w.heap.size w W) => rvalidP_any A l kc c W (hl.next b) (hc.next b) (fun p hp => (fl p hp).few) fc.few nl true (by rw [vl, fc.valid]; rfl))
  have hK := hide (fun W (b : Below w.heap.size w W) => rvalidP_any B m kd d W (hm.next b) (hd.next b) (fun p hp => (fm p hp).few) fd.few nm true (by rw [vm, fd.valid]; rfl))
  have hS := hide (fun W (b : Below w.heap.size w W) => raddp_ok A B l m kc kd c d W (hl.next b) (hm.next b) fl fm (hc.next b) (hd.next b) fc fd nl nm hf hfc)
  obtain ⟨n, hnn⟩ : ∃ n, n = l.length := ⟨_, rfl⟩
  obtain ⟨k, hkk⟩ : ∃ k, k = m.length := ⟨_, rfl⟩
  have hst := hide (fun W (b : Below (V3 w c d A B n kc k kd).heap.size (V3 w c d A B n kc k kd) W) => (Ax.start w c d A B n kc k kd 0 (by omega) b).2)
  have hb0 : Below w.heap.size w (V3 w c d A B n kc k kd) := bl_al (bl_al (bl_al (.refl _ _) _) _) _
  have hbz := hide (hst.out _ (Below.refl _ _))
  clear hl hm fl fm hc hd fc fd
  obtain ⟨LM, hLM⟩ : ∃ L, mrg (l.map Pt.qt) (m.map Pt.qt) = L := ⟨_, rfl⟩
  rw [hLM] at hS ⊢
  rw [← hnn] at hV hS
  rw [← hkk] at hK hS
  rw [← hnn, ← hkk]
  clear hnn hkk hLM
  unfold polyV at *
  unfold V3 zP at hb0 hst hbz
  replace hst := hide hst.out
  replace hb0 := hide hb0
  generalize c.q + d.q = q0 at *
  obtain ⟨⟨x0, x1, x2, x3⟩, ⟨y0, y1, y2, y3⟩, _⟩ := hbz.out
  go_enter Tryz.func13, Tryz.ntmps13
  go_wp2_with (first
    | (go_at_call 26; (with_reducible refine (hV.out _ hb0.out).mono ?_); rintro e w1 ⟨rfl, hb⟩; clear x0 x1 x2 x3 y0 y1 y2 y3; obtain ⟨⟨x0, x1, x2, x3⟩, ⟨y0, y1, y2, y3⟩, _, hbw⟩ := hst.out w1 hb; replace hbw := hide hbw; replace hb := hide hb; clear hV)
    | (go_at_call 26; (with_reducible refine (hK.out _ hbw.out).mono ?_); rintro e w2 ⟨rfl, hb2⟩; clear x0 x1 x2 x3 y0 y1 y2 y3; have hb3 := hide (bl_trans hb.out hb2); obtain ⟨⟨x0, x1, x2, x3⟩, ⟨y0, y1, y2, y3⟩, _, hbw2⟩ := hst.out w2 hb3.out; replace hbw2 := hide hbw2; clear hK hb2 hbw hb)
    | (go_at_call 55; (with_reducible refine (hS.out _ hbw2.out).mono ?_); rintro e w3 ⟨A', k', l', c', rfl, mq, hq, hP, ha, ok, hc', hb4, hy, hx⟩; unfold polyV; clear x0 x1 x2 x3 y0 y1 y2 y3; obtain ⟨_, _, hX, hbw3⟩ := hst.out w3 (bl_trans hb3.out hb4); have hD := hide (pr_done hbw3 hX (by omega) mq hq hP ha ok hc' hy hx); have r0 := hX.cell (j := 0) rfl; have r1 := hX.cell (j := 1) rfl; have r2 := hX.cell (j := 2) rfl; have r3 := hX.cell (j := 3) rfl; have s0 := hX.free 0; have s1 := hX.free 1; have s2 := hX.free 2; have s3 := hX.free 3; clear mq hq hP ha ok hc' hb4 hy hx hX hbw3)
    | fail)
  exact bodyPost_ret (v := .tuple #[.agg #[.slice A' l'.length k', .bool c'.s, .slice c'.A c'.xs.length c'.a, .slice c'.B c'.ys.length c'.b], .int .i64 0]) (by simp [results, Tryz.results13, go_sem, r0, r1, r2, r3]) rfl hD.out
set_option maxHeartbeats 4000000 in
/-- theodoliteref6.Coef. -/
theorem rcoef_any (A : Option Addr) (l : List Pt) (k : Nat) (c : Pt) (id : Int) (w : World) (hl : Pl w A l) (hc : c.At w) (fl : ∀ p ∈ l, p.Few) (fc : c.Few) (hn : l.length ≤ 1000) :
    Calls Tryz.prog 28 #[polyV A l.length k c, .int .i64 id] w (NewR (if (pvB (-1) l && c.ok) = true then cof (l.map Pt.qt) id else 0) w) := by
  obtain ⟨v, hv⟩ : ∃ v, (pvB (-1) l && c.ok) = v := ⟨_, rfl⟩
  have hV := hide (fun W (b : Below w.heap.size w W) => rvalidP_any A l k c W (hl.next b) (hc.next b) fl fc hn v hv)
  have hZ := hide (fun W => rzero_p W)
  have hP := hide (fun W (b : Below w.heap.size w W) => hl.next b)
  have hst := hide (fun W (b : Below (Cw w c A l.length k).heap.size (Cw w c A l.length k) W) => Cw.start w c A l.length k b)
  have hb0 : Below w.heap.size w (Cw w c A l.length k) := bl_al (bl_al (.refl _ _) _) _
  have hfin := hide (fun W (q : Rat) (r : Pt) (hb : Below w.heap.size w W) (hB : Bk (w.heap.size + 1) zR 25 W) (hq : r.q = q) (hk : r.Ok) (ha : r.At W) => newR_done hb hB (by omega) hq hk ha)
  have hcat := hide (fun (h : v = true) (i : Nat) (hi : i < l.length) (he : l[i].t = id) => (show (if v = true then cof (l.map Pt.qt) id else 0) = l[i].q ∧ l[i].Ok from by
    have h' := h
    rw [← hv, Bool.and_eq_true] at h'
    rw [if_pos h]
    exact ⟨cof_at h'.1 hi he, pvB_ok h'.1 fl _ (List.getElem_mem hi)⟩))
  have hcno := hide (fun (h : v = false ∨ ∀ p ∈ l, p.t ≠ id) => (show (if v = true then cof (l.map Pt.qt) id else 0) = 0 from by
    rcases h with h | h
    · rw [h]; rfl
    · split
      · exact cof_none h
      · rfl))
  rw [hv]
  obtain ⟨Q, hQ⟩ : ∃ Q, (if v = true then cof (l.map Pt.qt) id else 0) = Q := ⟨_, rfl⟩
  rw [hQ] at hcat hcno ⊢
  clear hl hc fl fc hv hQ
  obtain ⟨n, hnn⟩ : ∃ n, n = l.length := ⟨_, rfl⟩
  unfold polyV at *
  rw [← hnn] at hV hst hb0 hn ⊢
  replace hnn := hide hnn
  unfold Cw zR at hb0 hst
  unfold rv at hfin
  replace hst := hide hst.out
  replace hb0 := hide hb0
  obtain ⟨⟨x0, x1, x2, x3⟩, _, _⟩ := hst.out _ (Below.refl _ _)
  go_enter Tryz.func28, Tryz.ntmps28
  go_wp2_with fail
  clear x0 x1 x2 x3
  generalize hW0 : World.alloc (World.alloc w _) _ = w0 at *
  clear hW0 hb0
  go_loopw [5] (fun ix wr => ∃ i : Nat, i ≤ n ∧ ix = .int .i64 (i : Int) ∧ (∀ p ∈ l.take i, p.t ≠ id) ∧ Below w0.heap.size w0 wr) (fun ix _ => n - (intOf ix).toNat)
  case atStart => exact ⟨0, Nat.zero_le _, rfl, (fun p hp => by simp at hp), .refl _ _⟩
  case round =>
    obtain ⟨i, hi, rfl, hno, hbr⟩ := hrel
    obtain ⟨⟨x0, x1, x2, x3⟩, hR, hbw⟩ := hst.out wr hbr
    replace hR := hide hR
    replace hbw := hide hbw
    replace hbr := hide hbr
    by_cases hlt : i < n
    · have hlt' : (i : Int) < (n : Int) := by omega
      cases v with
      | false =>
        have hq0 := hide (hcno.out (.inl rfl))
        clear hcat hcno hno hP
        go_wp2_with (first
          | (go_at_call 26; (with_reducible refine (hV.out _ hbw.out).mono ?_); rintro e wa ⟨rfl, hb⟩; have hR2 := hide (hR.out.next hb); have bw2 := hide (bl_trans hbw.out hb); clear hb)
          | (go_at_call 58; (with_reducible refine (hZ.out _).mono ?_); rintro e wb ⟨r, rfl, rq, rk, ra, hb⟩; have hR3 := hide (hR2.out.next hb); have bw3 := hide (bl_trans bw2.out hb); have r0 := hR3.out.cell (j := 0) rfl; have r1 := hR3.out.cell (j := 1) rfl; have r2 := hR3.out.cell (j := 2) rfl; have s0 := hR3.out.free 0; have s1 := hR3.out.free 1; have s2 := hR3.out.free 2; clear hb)
          | fail)
        exact bodyPost_ret (v := .agg #[.bool r.s, .slice r.A r.xs.length r.a, .slice r.B r.ys.length r.b]) (by simp [results, Tryz.results28, go_sem, r0, r1, r2]) rfl (hfin.out _ _ r bw3.out hR3.out (rq.trans hq0.out.symm) rk ra)
      | true =>
        have hil : i < l.length := by rw [← hnn.out]; exact hlt
        obtain ⟨g1, o1, rfl, ⟨c0, c1, c2, c3⟩, hat⟩ := (hP.out wr hbw.out).get hil
        have hs := hide (take_part hil)
        have hca := hide (fun he => hcat.out rfl i hil he)
        clear hcat hcno hP
        replace hno := hide hno
        replace hat := hide hat
        generalize l[i] = p at *
        clear hil
        obtain ⟨b, hb⟩ : ∃ b, decide (p.t = id) = b := ⟨_, rfl⟩
        have e1 := eql_b 3 p.t id b hb
        replace hb := hide hb
        have hcc := hide (fun W (bb : Below wr.heap.size wr W) => And.intro (cell_next bb c0) (And.intro (cell_next bb c1) (And.intro (cell_next bb c2) (cell_next bb c3))))
        have hxx := hide (fun W (bb : Below wr.heap.size wr W) => (show W.cell? ⟨w.heap.size, 0, none⟩ = some (.slice (some ⟨g1, o1, none⟩) n k) from cell_next bb x0))
        cases b with
        | true =>
          go_wp2_with (go_at_call 26; (with_reducible refine (hV.out _ hbw.out).mono ?_); rintro e wa ⟨rfl, hb2⟩; clear x0 x1 x2 x3 c0 c1 c2 c3; obtain ⟨c0, c1, c2, c3⟩ := hcc.out wa hb2; have x0 := hxx.out wa hb2; have hR2 := hide (hR.out.next hb2); have bw2 := hide (bl_trans hbw.out hb2); have ha2 := hide (hat.out.next hb2); have r0 := hR2.out.cell (j := 0) rfl; have r1 := hR2.out.cell (j := 1) rfl; have r2 := hR2.out.cell (j := 2) rfl; have s0 := hR2.out.free 0; have s1 := hR2.out.free 1; have s2 := hR2.out.free 2; clear hb2)
          exact bodyPost_ret (v := .agg #[.bool p.s, .slice p.A p.xs.length p.a, .slice p.B p.ys.length p.b]) (by simp [results, Tryz.results28, go_sem, r0, r1, r2]) rfl (hfin.out _ _ p bw2.out hR2.out (hca.out (of_decide_eq_true hb.out)).1.symm (hca.out (of_decide_eq_true hb.out)).2 ha2.out)
        | false =>
          go_wp2_with (go_at_call 26; (with_reducible refine (hV.out _ hbw.out).mono ?_); rintro e wa ⟨rfl, hb2⟩; clear x0 x1 x2 x3 c0 c1 c2 c3; obtain ⟨c0, c1, c2, c3⟩ := hcc.out wa hb2; have x0 := hxx.out wa hb2; have br2 := hide (bl_trans hbr.out hb2); clear hb2)
          go_roundw
          case rel =>
            refine ⟨i + 1, hlt, by go_num, fun q hq => ?_, br2.out⟩
            rw [hs.out] at hq
            rcases List.mem_append.1 hq with hq | hq
            · exact hno.out q hq
            · simp at hq
              subst hq
              exact of_decide_eq_false hb.out
          case measure => simp only [intOf]; omega
    · have hin : i = n := by omega
      have hlt' : ¬ (i : Int) < (n : Int) := by omega
      have hq0 := hide (hcno.out (.inr (by rw [hin, hnn.out, List.take_length] at hno; exact hno)))
      clear hcat hcno hno hP
      go_wp2_with (go_at_call 58; (with_reducible refine (hZ.out _).mono ?_); rintro e wb ⟨r, rfl, rq, rk, ra, hb⟩; have hR3 := hide (hR.out.next hb); have bw3 := hide (bl_trans hbw.out hb); have r0 := hR3.out.cell (j := 0) rfl; have r1 := hR3.out.cell (j := 1) rfl; have r2 := hR3.out.cell (j := 2) rfl; have s0 := hR3.out.free 0; have s1 := hR3.out.free 1; have s2 := hR3.out.free 2; clear hb)
      exact bodyPost_ret (v := .agg #[.bool r.s, .slice r.A r.xs.length r.a, .slice r.B r.ys.length r.b]) (by simp [results, Tryz.results28, go_sem, r0, r1, r2]) rfl (hfin.out _ _ r bw3.out hR3.out (rq.trans hq0.out.symm) rk ra)
/-- What is at hand in Without's loop. -/
structure Rw (w : World) (c : Pt) (A : Option Addr) (n kc go : Nat) (v : Value) (l : List Pt) (W : World) : Prop where
  b : Below w.heap.size w W
  x : C4 w.heap.size (.slice A n kc) (.bool c.s) (.slice c.A c.xs.length c.a) (.slice c.B c.ys.length c.b) W
  r : Bk (w.heap.size + 1) zP 27 W
  o : Bk go #[v, .bool c.s, .slice c.A c.xs.length c.a, .slice c.B c.ys.length c.b] 27 W
  gn : Gn (w.heap.size + 2) W v l
  ok : ∀ p ∈ l, p.Ok ∧ p.At W
  ca : c.At W
  ne : w.heap.size + 2 ≤ go ∧ v.ownBlock ≠ some go
section
variable {w W W' : World} {c : Pt} {A : Option Addr} {n kc go : Nat} {v : Value} {l : List Pt}
theorem Rw.next (h : Rw w c A n kc go v l W) (hb : Below W.heap.size W W') : Rw w c A n kc go v l W' :=
  ⟨bl_trans h.b hb, h.x.next hb, h.r.next hb, h.o.next hb, h.gn.next hb, fun p hp => ⟨(h.ok p hp).1, (h.ok p hp).2.next hb⟩, h.ca.next hb, h.ne⟩
theorem Rw.start (w : World) (c : Pt) (A : Option Addr) (n kc : Nat) (hc : c.At w) : Rw w c A n kc (w.heap.size + 1 + 1) (.slice none 0 0) [] ((Dw w c A n kc).alloc (.cells #[.slice none 0 0, .bool c.s, .slice c.A c.xs.length c.a, .slice c.B c.ys.length c.b] 27)) := by
  obtain ⟨hx, hR, hbw⟩ := Dw.start w c A n kc (bl_al (.refl _ _) (.cells #[.slice none 0 0, .bool c.s, .slice c.A c.xs.length c.a, .slice c.B c.ys.length c.b] 27))
  have e : (Dw w c A n kc).heap.size = w.heap.size + 1 + 1 := by simp [Dw]
  have ho := Bk.new #[.slice none 0 0, .bool c.s, .slice c.A c.xs.length c.a, .slice c.B c.ys.length c.b] 27 (Dw w c A n kc)
  rw [e] at ho
  exact ⟨hbw, hx, hR, ho, Gn.nil _ _, fun p hp => by simp at hp, hc.next hbw, by omega, by simp [Value.ownBlock]⟩
theorem Rw.push (h : Rw w c A n kc go v l W) (p : Pt) (hp : p.Ok) (aP : p.At W) (hl : l.length ≤ 100000) {x : Nat} (hX : Bk x #[.bool p.s, .slice p.A p.xs.length p.a, .slice p.B p.ys.length p.b, .int .i64 p.t] 83 W) :
    ∃ v' W', (∀ ty, (Builtin.append_ #[22, 22] ty #[v, .slice (some ⟨x, 0, none⟩) 1 1]).run Tryz.prog W = .ok v' W') ∧ (∃ g' m', v' = .slice (some ⟨g', 0, none⟩) (l.length + 1) m') ∧ Off v.ownBlock.toList W W' ∧ Bk go #[v, .bool c.s, .slice c.A c.xs.length c.a, .slice c.B c.ys.length c.b] 27 W' ∧ Rw w c A n kc go v' (l ++ [p]) (W'.setCell ⟨go, 0, none⟩ v') := by
  have hbs := h.b.size
  obtain ⟨n1, n4⟩ := h.ne
  have hgs : w.heap.size + 2 ≤ W.heap.size := by have := h.o.lt; omega
  obtain ⟨v', W', hr, hg, hO, hw⟩ := h.gn.push p hl hgs hX
  have hT : ∀ b ∈ v.ownBlock.toList, w.heap.size + 2 ≤ b ∧ b ≠ go := fun b hb => by
    rw [Option.mem_toList] at hb
    exact ⟨(h.gn.base b hb).1, fun e => n4 (by rw [← e]; exact hb)⟩
  have ho := h.o.off hO (fun hm => (hT _ hm).2 rfl)
  have hO2 : Off [go] W' (W'.setCell ⟨go, 0, none⟩ v') := (Off.refl _ _).setCell _ _ (.inl (by simp))
  have hgo : ∀ b, v'.ownBlock = some b → b ≠ go := fun b hb => by
    rcases hw b hb with e | e
    · exact fun e' => n4 (by rw [← e']; exact e)
    · have := h.o.lt; omega
  have hno : ∀ u ∈ (#[v, .bool c.s, .slice c.A c.xs.length c.a, .slice c.B c.ys.length c.b] : Array Value).toList, noU u = true := by
    intro u hu
    simp at hu
    rcases hu with rfl | rfl | rfl | rfl
    · rcases h.gn with ⟨rfl, _⟩ | ⟨g, m, rfl, _⟩ <;> rfl
    · rfl
    · rfl
    · rfl
  have hB : Below w.heap.size W W' := hO.below hbs (fun b hb => by have := (hT b hb).1; omega)
  have hform : ∃ g' m', v' = .slice (some ⟨g', 0, none⟩) (l.length + 1) m' := by
    rcases hg with ⟨_, e⟩ | ⟨g', m', e, _⟩
    · simp at e
    · exact ⟨g', m', by rw [e, List.length_append]; rfl⟩
  have hat : ∀ q : Pt, q.At W → q.At (W'.setCell ⟨go, 0, none⟩ v') := fun q hq => by
    have h1 := h.gn.at_ hq hO
    exact ⟨ho.sl hno h1.1 hO2, ho.sl hno h1.2 hO2⟩
  refine ⟨v', W', hr, hform, hO, ho, ⟨?_, ?_, ?_, ?_, hg.off hO2 (fun b hb hm => hgo b hb (by simpa using hm)), ?_, hat c h.ca, n1, fun e => hgo go e rfl⟩⟩
  · exact (h.b.trans hB).trans (hO2.below (Nat.le_trans hbs hO.size) (fun b hb => by simp at hb; omega))
  · exact (h.x.off hO (fun hm => by have := (hT _ hm).1; omega)).off hO2 (by simp; omega)
  · exact (h.r.off hO (fun hm => by have := (hT _ hm).1; omega)).off hO2 (by simp; omega)
  · exact ho.set _ rfl
  · intro p' hp'
    rcases List.mem_append.1 hp' with hm | hm
    · exact ⟨(h.ok p' hm).1, hat p' (h.ok p' hm).2⟩
    · simp at hm
      subst hm
      exact ⟨hp, hat p' aP⟩
end
/-- A sum of just these parts comes back. -/
def SumP (w : World) (l : List Pt) (c : Pt) (e : Ending) (w' : World) : Prop := ∃ (A : Option Addr) (k : Nat), e = .returned (.agg #[.slice A l.length k, .bool c.s, .slice c.A c.xs.length c.a, .slice c.B c.ys.length c.b]) ∧ Pl w' A l ∧ c.At w' ∧ Below w.heap.size w w' ∧ l.length ≤ k ∧ k ≤ maxLen
theorem Rw.done {w W : World} {c : Pt} {A : Option Addr} {n kc go : Nat} {v : Value} {l : List Pt} (h : Rw w c A n kc go v l W) :
    ∃ A' k', v = .slice A' l.length k' ∧ SumP w l c (.returned (.agg #[.slice A' l.length k', .bool c.s, .slice c.A c.xs.length c.a, .slice c.B c.ys.length c.b]))
      ((((W.setCell ⟨w.heap.size + 1, 0, none⟩ (.slice A' l.length k')).setCell ⟨w.heap.size + 1, 1, none⟩ (.bool c.s)).setCell ⟨w.heap.size + 1, 2, none⟩ (.slice c.A c.xs.length c.a)).setCell ⟨w.heap.size + 1, 3, none⟩ (.slice c.B c.ys.length c.b)) := by
  obtain ⟨A', k', rfl, _, hk1, hk2⟩ := h.gn.pl (fun p hp => (h.ok p hp).2)
  have hO2 := off4 (w.heap.size + 1) W (.slice A' l.length k') (.bool c.s) (.slice c.A c.xs.length c.a) (.slice c.B c.ys.length c.b)
  have hg2 := h.gn.off hO2 (fun b hb hm => by simp at hm; have := (h.gn.base b hb).1; omega)
  obtain ⟨A2, k2, e2, hP, hk3, hk4⟩ := hg2.pl (fun p hp => at_off h.r (h.ok p hp).2 hO2)
  injection e2 with e2 _ e3
  subst e2
  subst e3
  exact ⟨A', k', rfl, A', k', rfl, hP, at_off h.r h.ca hO2, h.b.trans (hO2.below h.b.size (fun b hb => by simp at hb; omega)), hk3, hk4⟩
/-- Is a part of another term? -/
def noId (id : Int) (p : Pt) : Bool := decide (p.t ≠ id)
set_option maxHeartbeats 8000000 in
theorem rwithout_ok (A : Option Addr) (l : List Pt) (kc : Nat) (c : Pt) (id : Int) (w : World) (hl : Pl w A l) (fl : ∀ p ∈ l, p.Ok) (hc : c.At w) (hn : l.length ≤ 1000) :
    Calls Tryz.prog 65 #[polyV A l.length kc c, .int .i64 id] w (SumP w (l.filter (noId id)) c) := by
  have hP := hide (fun W (b : Below w.heap.size w W) => hl.next b)
  have hPg := hide (fun i (h : i < l.length) => (show ∃ g o, A = some ⟨g, o, none⟩ ∧ g < w.heap.size from by
    obtain ⟨g, o, e, ⟨c0, _⟩, _⟩ := hl.get h
    exact ⟨g, o, e, cell_in c0⟩))
  have hst := hide (Rw.start w c A l.length kc hc)
  have hst0 := hide (Dw.start w c A l.length kc (.refl _ _))
  clear hl hc
  obtain ⟨n, hnn⟩ : ∃ n, n = l.length := ⟨_, rfl⟩
  unfold polyV
  rw [← hnn] at hst hst0 hn ⊢
  replace hnn := hide hnn
  unfold Dw zP at hst hst0
  obtain ⟨⟨x0, x1, x2, x3⟩, _, _⟩ := hst0.out
  clear hst0
  replace fl := hide fl
  go_enter Tryz.func65, Tryz.ntmps65
  go_wp2_with fail
  clear x0 x1 x2 x3
  generalize World.alloc (World.alloc (World.alloc w _) _) _ = w0 at *
  generalize hgo : w.heap.size + 1 + 1 = go at *
  replace hgo := hide hgo
  go_loopw [6] (fun ix wr => ∃ (i : Nat) (v : Value) (l' : List Pt), i ≤ n ∧ ix = .int .i64 (i : Int) ∧ l'.length ≤ i ∧ l' = (l.take i).filter (noId id) ∧ Rw w c A n kc go v l' wr) (fun ix _ => n - (intOf ix).toNat)
  case atStart => exact ⟨0, _, [], Nat.zero_le _, rfl, Nat.le_refl _, rfl, hst.out⟩
  case round =>
    obtain ⟨i, v, l', hi, rfl, hll, hmap, hX⟩ := hrel
    have hX3 := hide hX
    obtain ⟨x0, x1, x2, x3⟩ := hX.x
    have hbw := hide hX.b
    replace hll := hide hll
    clear hX hst
    by_cases hlt : i < n
    · have hil : i < l.length := by rw [← hnn.out]; exact hlt
      obtain ⟨g1, o1, rfl, ⟨pc0, pc1, pc2, pc3⟩, hat⟩ := (hP.out wr hbw.out).get hil
      have hg1 : g1 < w.heap.size := by
        obtain ⟨_, _, e, h⟩ := hPg.out i hil
        cases e
        exact h
      have okP := hide (fl.out l[i] (List.getElem_mem hil))
      have hs := hide (take_part hil)
      have hlt' : (i : Int) < (n : Int) := by omega
      have pat := hide hat
      replace hmap := hide hmap
      clear hat hP hPg fl
      generalize l[i] = p at *
      clear hil
      obtain ⟨b, hb⟩ : ∃ b, decide (p.t ≠ id) = b := ⟨_, rfl⟩
      have e1 := neq_b 3 p.t id b hb
      cases b with
      | false =>
        have hm2 := hide (show l' = (l.take (i + 1)).filter (noId id) by rw [hs.out, List.filter_append, ← hmap.out, List.filter_cons_of_neg (by rw [show noId id p = false from hb]; decide), List.filter_nil, List.append_nil])
        clear hb pat okP pc0 pc1 pc2 hs hmap
        go_wp2_with fail
        go_roundw
        case rel => exact ⟨i + 1, v, l', hlt, by go_num, by have := hll.out; omega, hm2.out, hX3.out⟩
        case measure => simp only [intOf]; omega
      | true =>
        have hm2 := hide (show l' ++ [p] = (l.take (i + 1)).filter (noId id) by rw [hs.out, List.filter_append, ← hmap.out, List.filter_cons_of_pos (show noId id p = true from hb), List.filter_nil])
        clear hb hs hmap x1 x2 x3
        have hT : ∀ b, b ∈ v.ownBlock.toList → w.heap.size + 2 ≤ b := fun b hb => (hX3.out.gn.base b (Option.mem_toList.1 hb)).1
        have hgo2 : go ∉ v.ownBlock.toList := fun hm => hX3.out.ne.2 (Option.mem_toList.1 hm)
        have hsz : w.heap.size ≤ wr.heap.size := hX3.out.b.size
        have hCells := hide (And.intro x0 pc3)
        have SS := hide (fun W (hO : Off v.ownBlock.toList wr W) => (show W.cell? ⟨go, 0, none⟩ = some v ∧ W.cell? ⟨w.heap.size, 0, none⟩ = some (.slice (some ⟨g1, o1, none⟩) n kc) ∧ (W.cell? ⟨g1, o1 + i * 4, none⟩ = some (.bool p.s) ∧ W.cell? ⟨g1, o1 + i * 4 + 1, none⟩ = some (.slice p.A p.xs.length p.a) ∧ W.cell? ⟨g1, o1 + i * 4 + 2, none⟩ = some (.slice p.B p.ys.length p.b) ∧ W.cell? ⟨g1, o1 + i * 4 + 3, none⟩ = some (.int .i64 p.t)) from
          ⟨(hX3.out.o.off hO hgo2).cell rfl, (hX3.out.x.off hO (fun hm => by have := hT _ hm; omega)).1, ⟨hO.cell pc0 (by show g1 < _; omega) (fun hm => by have h1 : w.heap.size + 2 ≤ g1 := hT _ hm; omega), hO.cell pc1 (by show g1 < _; omega) (fun hm => by have h1 : w.heap.size + 2 ≤ g1 := hT _ hm; omega), hO.cell pc2 (by show g1 < _; omega) (fun hm => by have h1 : w.heap.size + 2 ≤ g1 := hT _ hm; omega), hO.cell pc3 (by show g1 < _; omega) (fun hm => by have h1 : w.heap.size + 2 ≤ g1 := hT _ hm; omega)⟩⟩))
        clear pc0 pc1 pc2 hT hgo2 hsz
        go_wp2_with fail
        clear x0 pc3 hCells
        refine wp_region_T (fun W => W.cell? ⟨go, 0, none⟩ = some v ∧ W.cell? ⟨w.heap.size, 0, none⟩ = some (.slice (some ⟨g1, o1, none⟩) n kc) ∧ (W.cell? ⟨g1, o1 + i * 4, none⟩ = some (.bool p.s) ∧ W.cell? ⟨g1, o1 + i * 4 + 1, none⟩ = some (.slice p.A p.xs.length p.a) ∧ W.cell? ⟨g1, o1 + i * 4 + 2, none⟩ = some (.slice p.B p.ys.length p.b) ∧ W.cell? ⟨g1, o1 + i * 4 + 3, none⟩ = some (.int .i64 p.t))) 10 (by kernel_rfl) (SS.out _ ((Off.refl _ _).drew)) (fun hHeld => ?_)
        refine wpAnyT_take 12 (i := 0) (v := ?vvt1) (by (simp only [List.getElem?_toArray, List.getElem?_cons_zero, List.getElem?_cons_succ]) <;> rfl) (by kernel_rfl) (by kernel_rfl) (by kernel_rfl) (by kernel_rfl) (by kernel_rfl) (by rfl) ?hqt1 (Or.inl ⟨by rfl, ?hyt1⟩) (by assumption) ?_
        case hqt1 => exact fun _ _ _ h => h
        case hyt1 => ((intro w hSw; (try dsimp only at hSw); go_simp) <;> (with_reducible rfl))
        (try simp only [Act.put, List.setIfInBounds_toArray, List.set_cons_zero, List.set_cons_succ])
        refine wpAnyT_take 12 (i := 1) (v := ?vvt2) (by (simp only [List.getElem?_toArray, List.getElem?_cons_zero, List.getElem?_cons_succ]) <;> rfl) (by kernel_rfl) (by kernel_rfl) (by kernel_rfl) (by kernel_rfl) (by kernel_rfl) (by rfl) ?hqt2 (Or.inl ⟨by rfl, ?hyt2⟩) (by assumption) ?_
        case hqt2 => exact fun _ _ _ h => h
        case hyt2 => ((intro w hSw; (try dsimp only at hSw); go_simp) <;> (with_reducible rfl))
        (try simp only [Act.put, List.setIfInBounds_toArray, List.set_cons_zero, List.set_cons_succ])
        refine wpAnyT_take 12 (i := 2) (v := ?vvt3) (by (simp only [List.getElem?_toArray, List.getElem?_cons_zero, List.getElem?_cons_succ]) <;> rfl) (by kernel_rfl) (by kernel_rfl) (by kernel_rfl) (by kernel_rfl) (by kernel_rfl) (by rfl) ?hqt3 (Or.inl ⟨by rfl, ?hyt3⟩) (by assumption) ?_
        case hqt3 => exact fun _ _ _ h => h
        case hyt3 => ((intro w hSw; (try dsimp only at hSw); go_simp) <;> (with_reducible rfl))
        (try simp only [Act.put, List.setIfInBounds_toArray, List.set_cons_zero, List.set_cons_succ])
        refine wpAnyT_take 12 (i := 3) (v := ?vvt4) (by (simp only [List.getElem?_toArray, List.getElem?_cons_zero, List.getElem?_cons_succ]) <;> rfl) (by kernel_rfl) (by kernel_rfl) (by kernel_rfl) (by kernel_rfl) (by kernel_rfl) (by rfl) ?hqt4 (Or.inl ⟨by rfl, ?hyt4⟩) (by assumption) ?_
        case hqt4 => exact fun _ _ _ h => h
        case hyt4 => ((intro w hSw; (try dsimp only at hSw); go_simp) <;> (with_reducible rfl))
        (try simp only [Act.put, List.setIfInBounds_toArray, List.set_cons_zero, List.set_cons_succ])
        refine wpAnyT_take 12 (i := 4) (v := ?vvt5) (by (simp only [List.getElem?_toArray, List.getElem?_cons_zero, List.getElem?_cons_succ]) <;> rfl) (by kernel_rfl) (by kernel_rfl) (by kernel_rfl) (by kernel_rfl) (by kernel_rfl) (by rfl) ?hqt5 (Or.inl ⟨by rfl, ?hyt5⟩) (by assumption) ?_
        case hqt5 => exact fun _ _ _ h => h
        case hyt5 => ((intro w hSw; (try dsimp only at hSw); go_simp) <;> (with_reducible rfl))
        (try simp only [Act.put, List.setIfInBounds_toArray, List.set_cons_zero, List.set_cons_succ])
        refine wpAnyT_take 12 (i := 5) (v := ?vvt6) (by (simp only [List.getElem?_toArray, List.getElem?_cons_zero, List.getElem?_cons_succ]) <;> rfl) (by kernel_rfl) (by kernel_rfl) (by kernel_rfl) (by kernel_rfl) (by kernel_rfl) (by rfl) ?hqt6 (Or.inl ⟨by rfl, ?hyt6⟩) (by assumption) ?_
        case hqt6 => exact fun _ _ _ h => h
        case hyt6 => ((intro w hSw; (try dsimp only at hSw); go_simp) <;> (with_reducible rfl))
        (try simp only [Act.put, List.setIfInBounds_toArray, List.set_cons_zero, List.set_cons_succ])
        refine wpAnyT_take 12 (i := 6) (v := ?vvt7) (by (simp only [List.getElem?_toArray, List.getElem?_cons_zero, List.getElem?_cons_succ]) <;> rfl) (by kernel_rfl) (by kernel_rfl) (by kernel_rfl) (by kernel_rfl) (by kernel_rfl) (by rfl) ?hqt7 (Or.inl ⟨by rfl, ?hyt7⟩) (by assumption) ?_
        case hqt7 => exact fun _ _ _ h => h
        case hyt7 => ((intro w hSw; (try dsimp only at hSw); go_simp) <;> (with_reducible rfl))
        (try simp only [Act.put, List.setIfInBounds_toArray, List.set_cons_zero, List.set_cons_succ])
        refine wpAnyT_ready (rs := [7]) (by kernel_rfl) (by simp) ?_
        refine (AllReadyT.cons (by (simp only [List.getElem?_toArray, List.getElem?_cons_zero, List.getElem?_cons_succ]) <;> rfl) (fun K hK => ?_) AllReadyT.nil)
        rw [if_pos (by rfl)]
        refine wp_buildP 31 p _ _ rfl rfl rfl rfl ?_
        intro W10 hB10 hb10
        have hb10' := hide (bl_trans (ka0 wr) hb10)
        have hO10 := hide (((Off.refl v.ownBlock.toList wr).drew).trans (Off.of_below hb10 []) (by simp))
        replace hB10 := hide hB10
        clear hb10
        refine hK.out _ _ (by first | exact SS.out _ hO10.out | exact SS.out _ (hO10.out.trans hO11.out (fun b hb => .inl hb))) (fun hHeld => ?_)
        (try clear hK K)
        (try simp only [Act.put, List.setIfInBounds_toArray, List.set_cons_zero, List.set_cons_succ])
        refine wpAnyT_ready (rs := [8]) (by kernel_rfl) (by simp) ?_
        refine (AllReadyT.cons (by (simp only [List.getElem?_toArray, List.getElem?_cons_zero, List.getElem?_cons_succ]) <;> rfl) (fun K hK => ?_) AllReadyT.nil)
        rw [if_pos (by rfl)]
        refine wp_append_ex (.tmp 26) (.tmp 32) 22 rfl v (.slice (some ⟨_, 0, none⟩) 1 1) rfl rfl _ (Rw.push (hX3.out.next hb10'.out) p okP.out (pat.out.next hb10'.out) (by have := hll.out; omega) hB10.out) ?_
        rintro v11 W11 ⟨⟨g11, m11, rfl⟩, hO11, hB11, hX11⟩
        have k1 : W11.cell? ⟨go, 0, none⟩ = some v := hB11.cell rfl
        have k2 := hB11.free 0
        replace hO11 := hide hO11; replace hX11 := hide hX11
        clear hB11
        refine hK.out _ _ (by first | exact SS.out _ hO10.out | exact SS.out _ (hO10.out.trans hO11.out (fun b hb => .inl hb))) (fun hHeld => ?_)
        (try clear hK K)
        (try simp only [Act.put, List.setIfInBounds_toArray, List.set_cons_zero, List.set_cons_succ])
        refine wpAnyT_take 12 (i := 9) (v := ?vvt8) (by (simp only [List.getElem?_toArray, List.getElem?_cons_zero, List.getElem?_cons_succ]) <;> rfl) (by kernel_rfl) (by kernel_rfl) (by kernel_rfl) (by kernel_rfl) (by kernel_rfl) (by rfl) ?hqt8 (Or.inl ⟨by rfl, ?hyt8⟩) (by assumption) ?_
        case hqt8 => exact fun _ _ _ h => h
        case hyt8 => ((intro w hSw; (try dsimp only at hSw); go_simp) <;> (with_reducible rfl))
        (try simp only [Act.put, List.setIfInBounds_toArray, List.set_cons_zero, List.set_cons_succ])
        refine wpAnyT_ready (rs := [10]) (by kernel_rfl) (by simp) ?_
        refine (AllReadyT.last (by (simp only [List.getElem?_toArray, List.getElem?_cons_zero, List.getElem?_cons_succ]) <;> rfl) (by kernel_rfl) (fun K hK => ?_) AllReadyT.nil)
        go_simp
        refine hK.out _ _ ?_
        (try clear hK K)
        (try simp only [Act.put, List.setIfInBounds_toArray, List.set_cons_zero, List.set_cons_succ])
        refine wpAnyT_done (by kernel_rfl) ?_ _
        (try clear hHeld)
        go_wp2_with fail
        go_roundw
        case rel => exact ⟨i + 1, _, l' ++ [p], hlt, by go_num, by rw [List.length_append]; have := hll.out; simp; omega, hm2.out, hX11.out⟩
        case measure => simp only [intOf]; omega
    · have hin : i = n := by omega
      have hlt' : ¬ (i : Int) < (n : Int) := by omega
      have hm2 : l' = l.filter (noId id) := by rw [hmap, hin, hnn.out, List.take_length]
      obtain ⟨A', k', rfl, hPR⟩ := hX3.out.done
      have q0 := hX3.out.o.cell (j := 0) rfl
      have q1 := hX3.out.o.cell (j := 1) rfl
      have q2 := hX3.out.o.cell (j := 2) rfl
      have q3 := hX3.out.o.cell (j := 3) rfl
      have r0 := hX3.out.r.cell (j := 0) rfl
      have r1 := hX3.out.r.cell (j := 1) rfl
      have r2 := hX3.out.r.cell (j := 2) rfl
      have r3 := hX3.out.r.cell (j := 3) rfl
      have s0 := hX3.out.r.free 0
      have s1 := hX3.out.r.free 1
      have s2 := hX3.out.r.free 2
      have s3 := hX3.out.r.free 3
      replace hPR := hide hPR
      replace hm2 := hide hm2
      clear hX3 hP hPg fl hmap
      go_wp2_with fail
      exact bodyPost_ret (v := .agg #[.slice A' l'.length k', .bool c.s, .slice c.A c.xs.length c.a, .slice c.B c.ys.length c.b]) (by simp [results, Tryz.results65, go_sem, r0, r1, r2, r3]) rfl (by rw [← hm2.out]; exact hPR.out)
end Nt
end Go.Proofs.YtgimmmmpollkhaaGreat
namespace Go.Proofs.YtgimmmmpollkhaaGreat
open Go.ChangeShapes Go.RowKit
namespace Nt
set_option maxRecDepth 100000
set_option linter.unusedSimpArgs false
set_option linter.unusedVariables false

theorem pvB_mono {t u : Int} (h : u ≤ t) : ∀ {l : List Pt}, pvB t l = true → pvB u l = true
  | [], _ => rfl
  | p :: l, h' => by
    unfold pvB at h' ⊢
    rw [Bool.and_eq_true, Bool.and_eq_true] at h' ⊢
    exact ⟨⟨decide_eq_true (by have := of_decide_eq_true h'.1.1; omega), h'.1.2⟩, h'.2⟩
theorem pvB_filter (P : Pt → Bool) : ∀ {t : Int} {l : List Pt}, pvB t l = true → pvB t (l.filter P) = true
  | _, [], _ => rfl
  | t, p :: l, h => by
    have h' := h
    unfold pvB at h'
    rw [Bool.and_eq_true, Bool.and_eq_true] at h'
    have ih := pvB_filter P h'.2
    cases hp : P p
    · rw [List.filter_cons_of_neg (by rw [hp]; decide)]
      exact pvB_mono (by have := of_decide_eq_true h'.1.1; omega) ih
    · rw [List.filter_cons_of_pos hp]
      unfold pvB
      rw [Bool.and_eq_true, Bool.and_eq_true]
      exact ⟨h'.1, ih⟩
theorem filter_at {t : Int} {l : List Pt} (h : pvB t l = true) {j : Nat} (hj : j < l.length) : l.filter (noId l[j].t) = l.take j ++ l.drop (j + 1) := by
  have e : l = l.take j ++ l[j] :: l.drop (j + 1) := by rw [← List.drop_eq_getElem_cons hj, List.take_append_drop]
  have h1 : (l.take j).filter (noId l[j].t) = l.take j := List.filter_eq_self.2 fun p hp => by
    obtain ⟨i, hi, rfl⟩ := List.getElem_of_mem hp
    rw [List.length_take] at hi
    rw [List.getElem_take]
    exact decide_eq_true (by have := pvB_lt h (show i < j by omega) hj; omega)
  have h2 : (l.drop (j + 1)).filter (noId l[j].t) = l.drop (j + 1) := List.filter_eq_self.2 fun p hp => by
    obtain ⟨i, hi, rfl⟩ := List.getElem_of_mem hp
    rw [List.length_drop] at hi
    rw [List.getElem_drop]
    exact decide_eq_true (by have := pvB_lt h (show j < j + 1 + i by omega) (by omega); omega)
  have h3 : noId l[j].t l[j] = false := decide_eq_false (by simp)
  have h4 : l.filter (noId l[j].t) = (l.take j ++ l[j] :: l.drop (j + 1)).filter (noId l[j].t) := congrArg _ e
  rw [h4, List.filter_append, List.filter_cons_of_neg (by rw [h3]; decide), h1, h2]
theorem rquo_p {p k : Pt} (hp : p.Ok) (hk : k.Ok) (w : World) (aP : p.At w) (aK : k.At w) (h0 : k.q ≠ 0) (f : fitq (p.q / k.q)) : Calls Tryz.prog 64 #[rv p, rv k] w (NewQ (p.q / k.q) p.t w) := by
  rw [hp.rv, hk.rv]
  exact (rquo_q p.q k.q _ rfl _ _ _ _ _ _ _ _ w (hp.sl aP).1 (hp.sl aP).2 (hk.sl aK).1 (hk.sl aK).2 hp.f hk.f h0 f).mono fun e w' h => h.newQ f _
set_option maxHeartbeats 4000000 in
theorem rsolve_no (A : Option Addr) (l : List Pt) (k : Nat) (c : Pt) (id : Int) (w : World) (hl : Pl w A l) (hc : c.At w) (fl : ∀ p ∈ l, p.Few) (fc : c.Few) (hn : l.length ≤ 1000) (hno : (pvB (-1) l && c.ok) = false ∨ ∀ p ∈ l, p.t ≠ id) :
    Calls Tryz.prog 17 #[polyV A l.length k c, .int .i64 id] w (PNo 1 w) := by
  obtain ⟨v, hv⟩ : ∃ v, (pvB (-1) l && c.ok) = v := ⟨_, rfl⟩
  have hC := hide (fun W (b : Below w.heap.size w W) => (show Calls Tryz.prog 28 #[polyV A l.length k c, .int .i64 id] W (NewR 0 W) from by
    have := rcoef_any A l k c id W (hl.next b) (hc.next b) fl fc hn
    have e : (if (pvB (-1) l && c.ok) = true then cof (l.map Pt.qt) id else 0) = 0 := by
      rcases hno with h | h
      · rw [h]; rfl
      · split
        · exact cof_none h
        · rfl
    rw [e] at this
    exact this))
  have hV := hide (fun W (b : Below w.heap.size w W) => rvalidP_any A l k c W (hl.next b) (hc.next b) fl fc hn v hv)
  have hst := hide (fun W (b : Below (Dw w c A l.length k).heap.size (Dw w c A l.length k) W) => Dw.start w c A l.length k b)
  have hb0 : Below w.heap.size w (Dw w c A l.length k) := bl_al (bl_al (.refl _ _) _) _
  have hbz := hide (hst.out _ (Below.refl _ _))
  clear hl hc fl fc hv hno
  unfold polyV at *
  unfold Dw zP at hb0 hst hbz
  replace hst := hide hst.out
  replace hb0 := hide hb0
  obtain ⟨⟨x0, x1, x2, x3⟩, _, _⟩ := hbz.out
  clear hbz
  have hfin := hide (fun W (b : Below w.heap.size w W) x0 x1 x2 x3 => pno_done (g := w.heap.size + 1) 1 b (by omega) x0 x1 x2 x3)
  cases v
  all_goals
    go_enter Tryz.func17, Tryz.ntmps17
    go_wp2_with (first
      | (go_at_call 28; (with_reducible refine (hC.out _ hb0.out).mono ?_); rintro e w1 ⟨r, rfl, rq, rk, ra, hb⟩; have hx0 : r.xs.length = 0 := (by rw [rk.x, rq]; exact congrArg List.length (show digs (qn 0) = [] by first | rfl | decide +kernel | simp [digs, qn])); rw [hx0]; clear x0 x1 x2 x3; obtain ⟨⟨x0, x1, x2, x3⟩, _, _⟩ := hst.out _ (bl_al hb (.cells #[.bool r.s, .slice r.A 0 r.a, .slice r.B r.ys.length r.b] 25)); have hb1 := hide (bl_al hb (.cells #[.bool r.s, .slice r.A 0 r.a, .slice r.B r.ys.length r.b] 25)); have hbw := hide (hst.out _ hb1.out).2.2; have hK := hide (Bk.new #[.bool r.s, .slice r.A 0 r.a, .slice r.B r.ys.length r.b] 25 w1); clear hb rq rk ra hx0)
      | (go_at_call 26; (with_reducible refine (hV.out _ hbw.out).mono ?_); rintro e w2 ⟨rfl, hb2⟩; clear x0 x1 x2 x3; obtain ⟨_, hR, hbw2⟩ := hst.out w2 (bl_trans hb1.out hb2); have r0 := hR.cell (j := 0) rfl; have r1 := hR.cell (j := 1) rfl; have r2 := hR.cell (j := 2) rfl; have r3 := hR.cell (j := 3) rfl; have s0 := hR.free 0; have s1 := hR.free 1; have s2 := hR.free 2; have s3 := hR.free 3; have k1 := (hK.out.next hb2).cell (j := 1) rfl; replace hbw2 := hide hbw2; clear hR hb2 hbw hK)
      | fail)
    exact bodyPost_ret (v := .tuple #[.agg #[.slice none 0 0, .bool false, .slice none 0 0, .slice none 0 0], .int .i64 1]) (by simp [results, Tryz.results17, go_sem, r0, r1, r2, r3]) rfl (hfin.out _ hbw2.out _ _ _ _)

set_option maxHeartbeats 8000000 in
theorem rsolve_ok (A : Option Addr) (l : List Pt) (k : Nat) (c : Pt) (w : World) (hl : Pl w A l) (hc : c.At w) (fl : ∀ p ∈ l, p.Ok) (fc : c.Ok) (hv : pvB (-1) l = true) (hn : l.length ≤ 1000) (j : Nat) (hj : j < l.length) (hs : scB (-1 / l[j].q) (l.take j ++ l.drop (j + 1)) c = true) :
    Calls Tryz.prog 17 #[polyV A l.length k c, .int .i64 l[j].t] w (PR w (scaleL (-1 / l[j].q) (l.take j ++ l.drop (j + 1))) (c.q * (-1 / l[j].q))) := by
  have hq0 : l[j].q ≠ 0 := by
    have := (pvB_rvB fl (-1)).1 hv
    exact rvB_ne this (x := l[j].qt) (List.mem_map_of_mem (List.getElem_mem hj))
  have fq := (fl l[j] (List.getElem_mem hj)).f
  have hC := hide (fun W (b : Below w.heap.size w W) => (show Calls Tryz.prog 28 #[polyV A l.length k c, .int .i64 l[j].t] W (NewR l[j].q W) from by
    have := rcoef_any A l k c l[j].t W (hl.next b) (hc.next b) (fun p hp => (fl p hp).few) fc.few hn
    rw [if_pos (by rw [hv, fc.valid]; rfl), cof_at hv hj rfl] at this
    exact this))
  have hV := hide (fun W (b : Below w.heap.size w W) => rvalidP_any A l k c W (hl.next b) (hc.next b) (fun p hp => (fl p hp).few) fc.few hn true (by rw [hv, fc.valid]; rfl))
  have hW := hide (fun W (b : Below w.heap.size w W) => (show Calls Tryz.prog 65 #[polyV A l.length k c, .int .i64 l[j].t] W (SumP W (l.take j ++ l.drop (j + 1)) c) from by
    have := rwithout_ok A l k c l[j].t W (hl.next b) fl (hc.next b) hn
    rw [filter_at hv hj] at this
    exact this))
  have hfv : pvB (-1) (l.take j ++ l.drop (j + 1)) = true := by rw [← filter_at hv hj]; exact pvB_filter _ hv
  have hfo : ∀ p ∈ l.take j ++ l.drop (j + 1), p.Ok := fun p hp => by
    rcases List.mem_append.1 hp with h | h
    · exact fl p (List.mem_of_mem_take h)
    · exact fl p (List.mem_of_mem_drop h)
  have hfn : (l.take j ++ l.drop (j + 1)).length ≤ 1000 := by rw [List.length_append, List.length_take, List.length_drop]; omega
  have hS := hide (fun R kr (kk : Pt) W (hP : Pl W R (l.take j ++ l.drop (j + 1))) (ac : c.At W) (kq : kk.q = -1 / l[j].q) (kok : kk.Ok) (kat : kk.At W) => (show Calls Tryz.prog 15 #[polyV R (l.take j ++ l.drop (j + 1)).length kr c, rv kk] W (PR W (scaleL (-1 / l[j].q) (l.take j ++ l.drop (j + 1))) (c.q * (-1 / l[j].q))) from by
    have := rscale_ok R (l.take j ++ l.drop (j + 1)) kr c kk W hP hfo hfv ac fc kat kok hfn (by rw [kq]; exact hs)
    rw [kq] at this
    exact this))
  have hst := hide (fun W (b : Below (Dw w c A l.length k).heap.size (Dw w c A l.length k) W) => Dw.start w c A l.length k b)
  have hb0 : Below w.heap.size w (Dw w c A l.length k) := bl_al (bl_al (.refl _ _) _) _
  have hbz := hide (hst.out _ (Below.refl _ _))
  have ON := hide (fun W => rof_p (-1) 1 (-1) W (by decide) (by decide) (by decide) (by decide) (by decide) (by first | rfl | decide +kernel) fit_m1)
  have QF := hide (fit_m1div fq hq0)
  have hPc := hide (fun W (b : Below w.heap.size w W) => hc.next b)
  clear hl hc fl fc hv hs hfv hfo hfn fq
  obtain ⟨n, hnn⟩ : ∃ n, n = l.length := ⟨_, rfl⟩
  obtain ⟨Q, hQ⟩ : ∃ Q, l[j].q = Q := ⟨_, rfl⟩
  obtain ⟨id, hid⟩ : ∃ t, l[j].t = t := ⟨_, rfl⟩
  obtain ⟨F, hF⟩ : ∃ L, l.take j ++ l.drop (j + 1) = L := ⟨_, rfl⟩
  rw [hQ] at hC hS QF hq0 ⊢
  rw [hid] at hC hW ⊢
  rw [hF] at hW hS ⊢
  obtain ⟨LL, hLL⟩ : ∃ L, scaleL (-1 / Q) F = L := ⟨_, rfl⟩
  obtain ⟨QQ, hQQ⟩ : ∃ L, c.q * (-1 / Q) = L := ⟨_, rfl⟩
  rw [hLL, hQQ] at hS ⊢
  unfold polyV rv at *
  rw [← hnn] at hC hV hW hst hb0 hbz hn ⊢
  clear hnn hid hF hLL hQQ hQ hj
  unfold Dw zP at hb0 hst hbz
  replace hst := hide hst.out
  replace hb0 := hide hb0
  replace hq0 := hide hq0
  obtain ⟨⟨x0, x1, x2, x3⟩, _, _⟩ := hbz.out
  clear hbz
  go_enter Tryz.func17, Tryz.ntmps17
  go_upto_region 4 with (first
    | (go_at_call 28; (with_reducible refine (hC.out _ hb0.out).mono ?_); rintro e w1 ⟨r, rfl, rq, rk, ra, hb⟩; have hxl : 0 < r.xs.length := (by rw [rk.x]; exact (q_zero_len r.q).2 (by rw [rq]; exact hq0.out)); have e9 : ((r.xs.length : Int) == 0) = false := (by have h : r.xs.length ≠ 0 := (by omega); simpa using h); clear x0 x1 x2 x3; have hb1 := hide (bl_al hb (.cells #[.bool r.s, .slice r.A r.xs.length r.a, .slice r.B r.ys.length r.b] 25)); obtain ⟨⟨x0, x1, x2, x3⟩, _, _⟩ := hst.out _ hb1.out; have hbw := hide (hst.out _ hb1.out).2.2; have HR := hide (rb_new rq rk ra); obtain ⟨k0, k1, k2⟩ := HR.out.x; replace rq := hide rq; clear hb ra hxl rk)
    | (go_at_call 26; (with_reducible refine (hV.out _ hbw.out).mono ?_); rintro e w2 ⟨rfl, hb2⟩; clear x0 x1 x2 x3 k0 k1 k2; have hb3 := hide (bl_trans hb1.out hb2); obtain ⟨⟨x0, x1, x2, x3⟩, _, hbw2⟩ := hst.out w2 hb3.out; replace HR := hide (HR.out.next hb2); obtain ⟨k0, k1, k2⟩ := HR.out.x; replace hbw2 := hide hbw2; clear hb2 hbw hb1)
    | fail)
  generalize w1.heap.size = gr at *
  have SS := hide (fun W (b : Below w2.heap.size w2 W) => (show W.cell? ⟨gr, 0, none⟩ = some (.bool r.s) ∧ W.cell? ⟨gr, 1, none⟩ = some (.slice r.A r.xs.length r.a) ∧ W.cell? ⟨gr, 2, none⟩ = some (.slice r.B r.ys.length r.b) from (HR.out.next b).x))
  clear x0 x1 x2 x3 k0 k1 k2
  go_cut [7, 8] (fun s7 s8 wx => ∃ (gk : Nat) (kk : Pt), s7 = .pointer (some ⟨gk, 0, none⟩) ∧ s8 = .int .i64 0 ∧ Rb (-1 / Q) gk kk wx ∧ w.heap.size + 2 ≤ gk ∧ Below w2.heap.size w2 wx)
  case first =>
    have hw2 : w.heap.size + 2 ≤ w2.heap.size := by have := hb3.out.size; simpa using this
    clear hC hV hW hS hst
    go_region_held3 (fun W => W.cell? ⟨gr, 0, none⟩ = some (.bool r.s) ∧ W.cell? ⟨gr, 1, none⟩ = some (.slice r.A r.xs.length r.a) ∧ W.cell? ⟨gr, 2, none⟩ = some (.slice r.B r.ys.length r.b))
      (first
        | (with_reducible exact SS.out _ (ka0 w2))
        | (with_reducible exact SS.out _ (ka1 w2 _))
        | (with_reducible exact SS.out _ be)
        | (with_reducible exact SS.out _ (bl_al be _))
        | (with_reducible exact SS.out _ (be.trans ((off3 _ _ _ _ _).below be.size (fun b hb => by simp at hb; omega))))
        | (with_reducible exact SS.out _ bc)
        | (with_reducible exact SS.out _ (bl_al bc _))
        | fail)
      (first
        | (go_at_call 31; (with_reducible refine (ON.out _).mono ?_); rintro e wa ⟨m, rfl, mq, mk, ma, hb⟩; have bc : Below w2.heap.size w2 wa := (by first | (with_reducible exact bl_trans (ka0 w2) hb) | (with_reducible exact bl_trans (ka1 w2 _) hb)); have n1 := bc.size; (first | (have hZ : Hid (Bk w2.heap.size #[.bool false, .slice none 0 0, .slice none 0 0] 25 wa) := by with_reducible exact hide (zd hb)) | skip); have hQu := hide (fun W (b : Below wa.heap.size wa W) => rquo_p mk HR.out.ok W (ma.next b) ((HR.out.next bc).next b).at_ (by rw [HR.out.hq]; exact hq0.out) (by rw [HR.out.hq, mq]; exact QF.out)); unfold rv at hQu; clear hb)
        | (go_at_call 64; (with_reducible refine (hQu.out _ ?hw).mono ?_); (case hw => first | (with_reducible exact .refl _ _) | (with_reducible exact bl_al (.refl _ _) _) | fail); rintro e wd ⟨kk, rfl, kq, kt, kok, kat, hb⟩; have g2 : Below wa.heap.size wa wd := (by first | (with_reducible exact hb) | (with_reducible exact bl_one hb)); have be := bl_trans bc g2; have n3 := be.size; have n4 := g2.size; have kqq : kk.q = -1 / Q := (by rw [kq, mq, HR.out.hq]); (first | (have hZ3 := hide (hZ.out.next g2)) | (have hZ3 : Hid (Bk wa.heap.size #[.bool false, .slice none 0 0, .slice none 0 0] 25 wd) := by with_reducible exact hide (z1 hb)) | skip); (first | (have v0 := hZ3.out.cell (j := 0) rfl; have v1 := hZ3.out.cell (j := 1) rfl; have v2 := hZ3.out.cell (j := 2) rfl; have u0 := hZ3.out.free 0; have u1 := hZ3.out.free 1; have u2 := hZ3.out.free 2) | skip); clear hb)
        | fail)
    all_goals
      go_wp2_with fail
      go_meet
      first
        | with_reducible refine ⟨wd.heap.size, kk, rfl, rfl, ?_, ?_, bl_al be _⟩
          exact rb_new kqq kok kat
          omega
        | with_reducible refine ⟨_, kk, rfl, rfl, ?_, ?_, be.trans ((off3 _ _ _ _ _).below be.size (fun b hb => by simp at hb; omega))⟩
          exact ⟨kqq, kok, at_offR hZ3.out kat (off3 _ _ _ _ _), C3.of (((hZ3.out.set (.bool kk.s) rfl).set (.slice kk.A kk.xs.length kk.a) rfl).set (.slice kk.B kk.ys.length kk.b) rfl)⟩
          omega
        | fail
  case rest =>
    obtain ⟨gk, kk, rfl, rfl, HK, hgk, b4⟩ := hcut
    have hb5 := hide (bl_trans hb3.out b4)
    obtain ⟨hx, hR, hbw5⟩ := hst.out wc hb5.out
    have SS2 := hide (fun W (hO : Off [w.heap.size + 1] wc W) => (show (W.cell? ⟨w.heap.size, 0, none⟩ = some (.slice A n k) ∧ W.cell? ⟨w.heap.size, 1, none⟩ = some (.bool c.s) ∧ W.cell? ⟨w.heap.size, 2, none⟩ = some (.slice c.A c.xs.length c.a) ∧ W.cell? ⟨w.heap.size, 3, none⟩ = some (.slice c.B c.ys.length c.b)) ∧ (W.cell? ⟨gk, 0, none⟩ = some (.bool kk.s) ∧ W.cell? ⟨gk, 1, none⟩ = some (.slice kk.A kk.xs.length kk.a) ∧ W.cell? ⟨gk, 2, none⟩ = some (.slice kk.B kk.ys.length kk.b)) from ⟨(hx.off hO (by simp)), (HK.x.off hO (by simp; omega))⟩))
    have hR5 := hide (fun W (b : Below wc.heap.size wc W) => hR.next b)
    replace hbw5 := hide hbw5
    have HK2 := hide HK
    clear SS HR hC hV hst b4 hb3 hb5 hx hR HK hbw2
    go_upto_region 7 with fail
    go_region_held3 (fun W => (W.cell? ⟨w.heap.size, 0, none⟩ = some (.slice A n k) ∧ W.cell? ⟨w.heap.size, 1, none⟩ = some (.bool c.s) ∧ W.cell? ⟨w.heap.size, 2, none⟩ = some (.slice c.A c.xs.length c.a) ∧ W.cell? ⟨w.heap.size, 3, none⟩ = some (.slice c.B c.ys.length c.b)) ∧ (W.cell? ⟨gk, 0, none⟩ = some (.bool kk.s) ∧ W.cell? ⟨gk, 1, none⟩ = some (.slice kk.A kk.xs.length kk.a) ∧ W.cell? ⟨gk, 2, none⟩ = some (.slice kk.B kk.ys.length kk.b)))
      (first
        | (with_reducible exact SS2.out _ (Off.of_below (ka0 wc) _))
        | (with_reducible exact SS2.out _ ((Off.of_below be _).trans (off4 _ _ _ _ _ _) (fun b hb => .inl hb)))
        | (with_reducible exact SS2.out _ (Off.of_below be _))
        | (with_reducible exact SS2.out _ (Off.of_below bc _))
        | fail)
      (first
        | (go_at_call 65; (with_reducible refine (hW.out _ (bl_trans hbw5.out (ka0 wc))).mono ?_); rintro e wa ⟨R, kr, rfl, hPR, hcR, hb, hk1, hk2⟩; have bc := bl_trans (ka0 wc) hb; clear hb)
        | (go_at_call 15; (with_reducible refine (hS.out R kr kk _ hPR hcR HK2.out.hq HK2.out.ok (HK2.out.next bc).at_).mono ?_); rintro e wd ⟨A', k', l', c', rfl, mq, hq, hP, ha, ok, hc', hb4, hy, hx⟩; unfold polyV; have be := bl_trans bc hb4; have hRd := hR5.out wd be; have hD := hide (pr_done (bl_trans hbw5.out be) hRd (by omega) mq hq hP ha ok hc' hy hx); have r0 := hRd.cell (j := 0) rfl; have r1 := hRd.cell (j := 1) rfl; have r2 := hRd.cell (j := 2) rfl; have r3 := hRd.cell (j := 3) rfl; have s0 := hRd.free 0; have s1 := hRd.free 1; have s2 := hRd.free 2; have s3 := hRd.free 3; clear mq hq hP ha ok hc' hb4 hy hx hRd)
        | fail)
    all_goals
      go_wp2_with fail
      exact bodyPost_ret (v := .tuple #[.agg #[.slice A' l'.length k', .bool c'.s, .slice c'.A c'.xs.length c'.a, .slice c'.B c'.ys.length c'.b], .int .i64 0]) (by simp [results, Tryz.results17, go_sem, r0, r1, r2, r3]) rfl hD.out
end Nt
end Go.Proofs.YtgimmmmpollkhaaGreat
