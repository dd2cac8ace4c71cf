
/-
  The reference's Add where the sum is too long; rows of bindings: are they looked at, as the document's, what is told of an id; the reference's Value.
  Rows of bindings as the document's; the closures that look them up.
  The reference's value of a sum (theodoliteref6.Value).
-/
import Derived.Test.YtgimmmmpollkhaaGreatNZd
import Derived.Test.YtgimmmmpollkhaaGreatNZo
namespace Go.Proofs.YtgimmmmpollkhaaGreat

open Go.ChangeShapes Go.RowKit

namespace Nt
set_option maxRecDepth 100000
set_option linter.unusedSimpArgs false
set_option linter.unusedVariables false

theorem gtI (t : TypeId) {x y : Int} (h : y < x) : binOp .gtr t (.int .i64 x) (.int .i64 y) = pure (.bool true) := by
  show pure (Value.bool (decide (x > y))) = _
  rw [decide_eq_true (by omega)]
set_option maxHeartbeats 4000000 in
theorem rfits_big (q : Rat) (A B : Option Addr) (a b : Nat) (w : World) (sA : Sl w A (digs (qn q))) (sB : Sl w B (digs (qd q))) (f : ¬ fitq q) :
    Calls Tryz.prog 102 #[.agg #[.bool (qs q), .slice A (ln (qn q)) a, .slice B (ln (qd q)) b]] w (RNo 4 w) := by
  have X := hide (Q3.new1 (.bool false) (.slice none 0 0) (.slice none 0 0) w (.cells #[.bool (qs q), .slice A (ln (qn q)) a, .slice B (ln (qd q)) b] 25))
  have b0 : Below w.heap.size w ((w.alloc (.cells #[.bool (qs q), .slice A (ln (qn q)) a, .slice B (ln (qd q)) b] 25)).alloc (.cells #[.bool false, .slice none 0 0, .slice none 0 0] 25)) := bl_al (bl_al (.refl _ _) _) _
  have hf : 64 < ln (qn q) ∨ (ln (qn q) ≤ 64 ∧ 64 < ln (qd q)) := by
    rcases Nat.lt_or_ge 64 (ln (qn q)) with h | h
    · exact .inl h
    · refine .inr ⟨h, Nat.lt_of_not_le fun h2 => f ⟨h, h2⟩⟩
  have R := hide (fun (W : World) (k : Below w.heap.size w W) => (⟨rfl, k⟩ : RNo 4 w (.returned (.tuple #[.agg #[.bool false, .slice none 0 0, .slice none 0 0], .int .i64 4])) W))
  clear sA sB f
  generalize qs q = s at *
  generalize ln (qn q) = i1 at *
  generalize ln (qd q) = i2 at *
  have X1 := hide ((Q3.new (.bool s) (.slice A i1 a) (.slice B i2 b) w).al (.cells #[.bool false, .slice none 0 0, .slice none 0 0] 25))
  obtain ⟨x1, x2, x3, x4, x5, x6⟩ := X.out
  obtain ⟨y1, y2, y3, y4, y5, y6⟩ := X1.out
  rcases hf with h | ⟨h, h'⟩
  · have e1 := gtI 3 (show (64 : Int) < (i1 : Int) by omega)
    go_enter Tryz.func102, Tryz.ntmps102
    go_wp2
    exact bodyPost_ret (v := .tuple #[.agg #[.bool false, .slice none 0 0, .slice none 0 0], .int .i64 4]) (by simp [results, Tryz.results102, go_sem]) rfl (R.out _ (bl_al (bl_al (.refl _ _) _) _))
  · have e1 := leI 3 (show (i1 : Int) ≤ 64 by omega)
    have e2 := gtI 3 (show (64 : Int) < (i2 : Int) by omega)
    go_enter Tryz.func102, Tryz.ntmps102
    go_wp2
    exact bodyPost_ret (v := .tuple #[.agg #[.bool false, .slice none 0 0, .slice none 0 0], .int .i64 4]) (by simp [results, Tryz.results102, go_sem]) rfl (R.out _ (bl_al (bl_al (.refl _ _) _) _))

set_option maxHeartbeats 4000000 in
theorem radd_big (q r Z : Rat) (hZ : q + r = Z) (A B C D : Option Addr) (a b c d : Nat) (w : World) (sA : Sl w A (digs (qn q))) (sB : Sl w B (digs (qd q))) (sC : Sl w C (digs (qn r))) (sD : Sl w D (digs (qd r))) (f1 : fitq q) (f2 : fitq r) (f3 : ¬ fitq Z) :
    Calls Tryz.prog 69 #[.agg #[.bool (qs q), .slice A (ln (qn q)) a, .slice B (ln (qd q)) b], .agg #[.bool (qs r), .slice C (ln (qn r)) c, .slice D (ln (qd r)) d]] w (RNo 4 w) := by
  have V1 := hide (fun W (k : Below w.heap.size w W) => rvalid_q q A B a b W (kp' k sA) (kp' k sB) f1)
  have V2 := hide (fun W (k : Below w.heap.size w W) => rvalid_q r C D c d W (kp' k sC) (kp' k sD) f2)
  have AR := hide (fun W (k : Below w.heap.size w W) => raddRat_q q r Z hZ A B C D a b c d W (kp' k sA) (kp' k sB) (kp' k sC) (kp' k sD) f1 f2)
  have FT := hide (fun X Y e f W (sx : Sl W X (digs (qn Z))) (sy : Sl W Y (digs (qd Z))) => rfits_big Z X Y e f W sx sy f3)
  clear sA sB sC sD f1 f2 f3 hZ
  generalize qs q = s at *
  generalize qs r = t at *
  generalize ln (qn q) = i1 at *
  generalize ln (qd q) = i2 at *
  generalize ln (qn r) = i3 at *
  generalize ln (qd r) = i4 at *
  have X1 := hide (((Q3.new (.bool s) (.slice A i1 a) (.slice B i2 b) w).al (.cells #[.bool t, .slice C i3 c, .slice D i4 d] 25)).al (.cells #[.bool false, .slice none 0 0, .slice none 0 0] 25))
  have X2 := hide ((Q3.new1 (.bool t) (.slice C i3 c) (.slice D i4 d) w (.cells #[.bool s, .slice A i1 a, .slice B i2 b] 25)).al (.cells #[.bool false, .slice none 0 0, .slice none 0 0] 25))
  have X3 := hide (Q3.new2 (.bool false) (.slice none 0 0) (.slice none 0 0) w (.cells #[.bool s, .slice A i1 a, .slice B i2 b] 25) (.cells #[.bool t, .slice C i3 c, .slice D i4 d] 25))
  have b0 : Below w.heap.size w (((w.alloc (.cells #[.bool s, .slice A i1 a, .slice B i2 b] 25)).alloc (.cells #[.bool t, .slice C i3 c, .slice D i4 d] 25)).alloc (.cells #[.bool false, .slice none 0 0, .slice none 0 0] 25)) := bl_al (bl_al (bl_al (.refl _ _) _) _) _
  go_enter Tryz.func69, Tryz.ntmps69
  go_wp2_with (first
    | (go_at_call 30; (with_reducible refine (V1.out _ b0).mono ?_); rintro e w1 ⟨rfl, hb⟩; have X1 := hide (X1.out.next hb); have X2 := hide (X2.out.next hb); have X3 := hide (X3.out.next hb); (try clear x1 x2 x3 x4 x5 x6 y1 y2 y3 y4 y5 y6 u1 u2 u3 u4 u5 u6); obtain ⟨x1, x2, x3, x4, x5, x6⟩ := X1.out; obtain ⟨y1, y2, y3, y4, y5, y6⟩ := X2.out; obtain ⟨u1, u2, u3, u4, u5, u6⟩ := X3.out; have b1 := bl_trans b0 hb; clear hb)
    | (go_at_call 30; (with_reducible refine (V2.out _ b1).mono ?_); rintro e w2 ⟨rfl, hb⟩; have X1 := hide (X1.out.next hb); have X2 := hide (X2.out.next hb); have X3 := hide (X3.out.next hb); (try clear x1 x2 x3 x4 x5 x6 y1 y2 y3 y4 y5 y6 u1 u2 u3 u4 u5 u6); obtain ⟨x1, x2, x3, x4, x5, x6⟩ := X1.out; obtain ⟨y1, y2, y3, y4, y5, y6⟩ := X2.out; obtain ⟨u1, u2, u3, u4, u5, u6⟩ := X3.out; have b2 := bl_trans b1 hb; clear hb)
    | (go_at_call 116; (with_reducible refine (AR.out _ b2).mono ?_); rintro e w3 ⟨P3, p3, P4, p4, rfl, z3, z4, hb⟩; have X1 := hide (X1.out.next hb); have X2 := hide (X2.out.next hb); have X3 := hide (X3.out.next hb); (try clear x1 x2 x3 x4 x5 x6 y1 y2 y3 y4 y5 y6 u1 u2 u3 u4 u5 u6); obtain ⟨x1, x2, x3, x4, x5, x6⟩ := X1.out; obtain ⟨y1, y2, y3, y4, y5, y6⟩ := X2.out; obtain ⟨u1, u2, u3, u4, u5, u6⟩ := X3.out; have b3 := bl_trans b2 hb; clear hb)
    | (go_at_call 102; (with_reducible refine (FT.out P3 P4 p3 p4 _ z3 z4).mono ?_); rintro e w4 ⟨rfl, hb⟩; have X1 := hide (X1.out.next hb); have X2 := hide (X2.out.next hb); have X3 := hide (X3.out.next hb); (try clear x1 x2 x3 x4 x5 x6 y1 y2 y3 y4 y5 y6 u1 u2 u3 u4 u5 u6); obtain ⟨x1, x2, x3, x4, x5, x6⟩ := X1.out; obtain ⟨y1, y2, y3, y4, y5, y6⟩ := X2.out; obtain ⟨u1, u2, u3, u4, u5, u6⟩ := X3.out; have b4 := bl_trans b3 hb; clear hb))
  exact bodyPost_ret (v := .tuple #[.agg #[.bool false, .slice none 0 0, .slice none 0 0], .int .i64 4]) (by simp [results, Tryz.results69, go_sem, u1, u2, u3]) rfl ⟨rfl, Below.over3 b4 (by omega) _ _ _⟩
theorem radd_p {p k : Pt} (hp : p.Ok) (hk : k.Ok) (w : World) (aP : p.At w) (aK : k.At w) (f : fitB (p.q + k.q) = true) : Calls Tryz.prog 69 #[rv p, rv k] w (NewQ (p.q + k.q) p.t w) := by
  rw [fitB_t] at f
  rw [hp.rv, hk.rv]
  exact (radd_q p.q k.q _ rfl _ _ _ _ _ _ _ _ w (hp.sl aP).1 (hp.sl aP).2 (hk.sl aK).1 (hk.sl aK).2 hp.f hk.f f).mono fun e w' h => h.newQ f _
theorem radd_n {p k : Pt} (hp : p.Ok) (hk : k.Ok) (w : World) (aP : p.At w) (aK : k.At w) (f : fitB (p.q + k.q) = false) : Calls Tryz.prog 69 #[rv p, rv k] w (RNo 4 w) := by
  replace f := fitB_f f
  rw [hp.rv, hk.rv]
  exact radd_big p.q k.q _ rfl _ _ _ _ _ _ _ _ w (hp.sl aP).1 (hp.sl aP).2 (hk.sl aK).1 (hk.sl aK).2 hp.f hk.f f

set_option maxHeartbeats 4000000 in
theorem bfew9_any (A : Option Addr) (l : List Pt) (k : Nat) (w : World) (hl : Bl w A l) (hn : l.length ≤ 9223372036854775807) :
    Calls Tryz.prog 34 #[.slice A l.length k] w (FewO w (l.length ≤ 12 ∧ ∀ p ∈ l, p.few8 = true)) := by
  have hP := hide (fun W (b : Below w.heap.size w W) => Bl.next hl b)
  have hG := hide (fun (p : Pt) W => fewR_any p.s p.A p.B p.xs.length p.ys.length p.a p.b W p.few8 rfl)
  clear hl
  obtain ⟨n, hnn⟩ : ∃ n, n = l.length := ⟨_, rfl⟩
  rw [← hnn] at hn ⊢
  replace hnn := hide hnn
  go_enter Tryz.func34, Tryz.ntmps34
  go_wp2
  go_loopw [3] (fun ix wr => ∃ i : Nat, i ≤ n ∧ i ≤ 20 ∧ ix = .int .i64 (i : Int) ∧ (∀ p ∈ l.take i, p.few8 = true) ∧ Below w.heap.size w wr) (fun ix _ => n - (intOf ix).toNat)
  case atStart => exact ⟨0, Nat.zero_le _, by decide, rfl, (fun p hp => by simp at hp), .refl _ _⟩
  case round =>
    obtain ⟨i, hi, hi20, rfl, hpv, hbw⟩ := hrel
    by_cases hlt : i < n ∧ i < 20
    · have hil : i < l.length := by rw [← hnn.out]; exact hlt.1
      obtain ⟨g, o, rfl, ⟨x0, x1, x2, x3⟩, hat⟩ := (hP.out wr hbw).get hil
      have hG := hide (hG.out l[i] wr)
      have hs := hide (take_part hil)
      obtain ⟨h1, h2⟩ := hlt
      have h1' : (i : Int) < (n : Int) := by omega
      have h2' : (i : Int) < 20 := by omega
      clear hat hP
      generalize l[i] = p at *
      obtain ⟨v, hv⟩ : ∃ v, p.few8 = v := ⟨_, rfl⟩
      rw [hv] at hG
      replace hv := hide hv
      generalize p.xs.length = j1 at *
      generalize p.ys.length = j2 at *
      cases v with
      | false =>
        go_wp2_with (go_at_call 9; (with_reducible refine hG.out.mono ?_); rintro e wa ⟨rfl, hb3⟩; replace hb3 := hide hb3)
        go_ret
        exact ⟨_, rfl, bl_trans hbw hb3.out, fun h => by cases h⟩
      | true =>
        go_wp2_with (go_at_call 9; (with_reducible refine hG.out.mono ?_); rintro e wa ⟨rfl, hb3⟩; replace hb3 := hide hb3)
        go_roundw
        case rel =>
          refine ⟨i + 1, h1, h2, by go_num, fun q hq => ?_, bl_trans hbw hb3.out⟩
          rw [hs.out] at hq
          rcases List.mem_append.1 hq with hq | hq
          · exact hpv q hq
          · simp at hq
            subst hq
            exact hv.out
        case measure => simp only [intOf]; omega
    · obtain ⟨r, hr⟩ : ∃ r, decide ((n : Int) ≤ 12) = r := ⟨_, rfl⟩
      have e1 := leq_b 3 (n : Int) 12 r hr
      have hfin : r = true → n ≤ 12 ∧ ∀ p ∈ l, p.few8 = true := fun h => by
        rw [h] at hr
        have h12 : n ≤ 12 := by have := of_decide_eq_true hr; omega
        have hin : i = n := by omega
        refine ⟨h12, fun p hp => hpv p ?_⟩
        rw [hin, hnn.out, List.take_length]
        exact hp
      replace hfin := hide hfin
      clear hpv hr
      by_cases h1 : i < n
      · have h1' : (i : Int) < (n : Int) := by omega
        have h2' : ¬ (i : Int) < 20 := by omega
        go_wp2
        go_ret
        exact ⟨_, rfl, hbw, hfin.out⟩
      · have h1' : ¬ (i : Int) < (n : Int) := by omega
        go_wp2
        go_ret
        exact ⟨_, rfl, hbw, hfin.out⟩

def lookT : List Pt → Tells
  | [], _ => (false, [], [1])
  | p :: l, t => if p.t = t then (p.s, p.xs, p.ys) else lookT l t
theorem lookT_at {l : List Pt} {t : Int} : ∀ {i : Nat} (hi : i < l.length), (∀ p ∈ l.take i, p.t ≠ t) → l[i].t = t → lookT l t = (l[i].s, l[i].xs, l[i].ys) := by
  induction l with
  | nil => intro i hi; exact absurd hi (Nat.not_lt_zero _)
  | cons p l ih =>
    intro i hi hno he
    cases i with
    | zero =>
      have he' : p.t = t := he
      unfold lookT
      rw [if_pos he']
      rfl
    | succ i =>
      unfold lookT
      rw [if_neg (hno p (by simp))]
      exact ih (by simpa using hi) (fun q hq => hno q (by simp [hq])) he
theorem lookT_no {l : List Pt} {t : Int} (h : ∀ p ∈ l, p.t ≠ t) : lookT l t = (false, [], [1]) := by
  induction l with
  | nil => rfl
  | cons p l ih =>
    unfold lookT
    rw [if_neg (h p (by simp))]
    exact ih fun q hq => h q (by simp [hq])
theorem digs_one : digs 1 = [1] := by kernel_rfl
theorem tell_zero {r : Pt} (hq : r.q = 0) (hk : r.Ok) : (r.s, r.xs, r.ys) = (false, [], [1]) := by
  rw [hk.s, hk.x, hk.y, hq]
  show (qs 0, digs 0, digs 1) = _
  rw [digs_one, digs_zero]
  rfl
set_option maxHeartbeats 4000000 in
theorem look_any (A : Option Addr) (l : List Pt) (k : Nat) (t : Int) (w : World) (hl : Bl w A l) (hf : ∀ p ∈ l, p.Few) (hn : l.length ≤ 1000) :
    Calls Tryz.prog 20 #[.slice A l.length k, .int .i64 t] w (TellO (lookT l) t w) := by
  have hP := hide (fun W (b : Below w.heap.size w W) => Bl.next hl b)
  have hZ := hide (fun W => rzero_p W)
  have hB : Bk w.heap.size zR 25 (w.alloc (.cells zR 25)) := Bk.new _ _ _
  have hb0 := hide (bl_al (.refl _ _) (.cells zR 25) : Below w.heap.size w (w.alloc (.cells zR 25)))
  have hfin := hide (fun W (r : Pt) (hb : Below w.heap.size w W) (hB : Bk w.heap.size zR 25 W) (ha : r.At W) (hf : r.Few) (he : (r.s, r.xs, r.ys) = lookT l t) =>
    (show TellO (lookT l) t w (.returned (.agg #[.bool r.s, .slice r.A r.xs.length r.a, .slice r.B r.ys.length r.b])) (((W.setCell ⟨w.heap.size, 0, none⟩ (.bool r.s)).setCell ⟨w.heap.size, 1, none⟩ (.slice r.A r.xs.length r.a)).setCell ⟨w.heap.size, 2, none⟩ (.slice r.B r.ys.length r.b)) from
      ⟨r, rfl, he, at_offR hB ha (off3 _ _ _ _ _), hf, hb.trans ((off3 _ _ _ _ _).below hb.size (fun b hb => by simp at hb; omega))⟩))
  clear hl
  replace hB := hide hB
  unfold zR at hB hb0
  obtain ⟨n, hnn⟩ : ∃ n, n = l.length := ⟨_, rfl⟩
  rw [← hnn] at hn ⊢
  replace hnn := hide hnn
  replace hf := hide hf
  go_enter Tryz.func20, Tryz.ntmps20
  go_wp2
  generalize w.alloc (.cells #[.bool false, .slice none 0 0, .slice none 0 0] 25) = w0 at *
  go_loopw [5] (fun ix wr => ∃ i : Nat, i ≤ n ∧ ix = .int .i64 (i : Int) ∧ (∀ p ∈ l.take i, p.t ≠ t) ∧ wr = w0) (fun ix _ => n - (intOf ix).toNat)
  case atStart => exact ⟨0, Nat.zero_le _, rfl, (fun p hp => by simp at hp), rfl⟩
  case round =>
    obtain ⟨i, hi, rfl, hno, rfl⟩ := hrel
    have r0 := hB.out.cell (j := 0) rfl
    have r1 := hB.out.cell (j := 1) rfl
    have r2 := hB.out.cell (j := 2) rfl
    have s0 := hB.out.free 0
    have s1 := hB.out.free 1
    have s2 := hB.out.free 2
    by_cases hlt : i < n
    · have hil : i < l.length := by rw [← hnn.out]; exact hlt
      obtain ⟨g, o, rfl, ⟨x0, x1, x2, x3⟩, hat⟩ := (hP.out _ hb0.out).get hil
      have hs := hide (take_part hil)
      have hLk := hide (lookT_at (t := t) hil hno)
      have hfw := hide (hf.out l[i] (List.getElem_mem hil))
      obtain ⟨b, hb⟩ : ∃ b, decide (l[i].t = t) = b := ⟨_, rfl⟩
      have e1 := eql_b 3 l[i].t t b hb
      replace hb := hide hb
      replace hat := hide hat
      have hlt' : (i : Int) < (n : Int) := by omega
      clear hP hf hZ
      generalize l[i] = p at *
      cases b with
      | true =>
        have hfin := hide (hfin.out _ p hb0.out hB.out hat.out hfw.out (hLk.out (of_decide_eq_true hb.out)).symm)
        clear hLk hs hat hfw
        obtain ⟨j1, hj1⟩ : ∃ j, p.xs.length = j := ⟨_, rfl⟩
        obtain ⟨j2, hj2⟩ : ∃ j, p.ys.length = j := ⟨_, rfl⟩
        rw [hj1] at hfin x2; rw [hj2] at hfin x3
        replace hj1 := hide hj1; replace hj2 := hide hj2
        go_wp2
        exact bodyPost_ret (v := .agg #[.bool p.s, .slice p.A j1 p.a, .slice p.B j2 p.b]) (by simp [results, Tryz.results20, go_sem, r0, r1, r2]) rfl hfin.out
      | false =>
        clear hLk hat hfw hfin
        go_wp2
        go_roundw
        case rel =>
          refine ⟨i + 1, hlt, by go_num, fun q hq => ?_, by first | rfl | trivial⟩
          rw [hs.out] at hq
          rcases List.mem_append.1 hq with hq | hq
          · exact hno q hq
          · simp at hq
            subst hq
            exact of_decide_eq_false hb.out
        case measure => simp only [intOf]; omega
    · have hin : i = n := by omega
      have hLk := hide (lookT_no (l := l) (t := t) (by rw [hin, hnn.out, List.take_length] at hno; exact hno))
      have hlt' : ¬ (i : Int) < (n : Int) := by omega
      clear hno hP hf
      go_wp2_with (go_at_call 58; (with_reducible refine (hZ.out _).mono ?_); rintro e wa ⟨r, rfl, hq, hk, ha, hb⟩; have hR2 := hide (hB.out.next hb); have bw := hide (bl_trans hb0.out hb); clear r0 r1 r2 s0 s1 s2; have r0 := hR2.out.cell (j := 0) rfl; have r1 := hR2.out.cell (j := 1) rfl; have r2 := hR2.out.cell (j := 2) rfl; have s0 := hR2.out.free 0; have s1 := hR2.out.free 1; have s2 := hR2.out.free 2; clear hb)
      exact bodyPost_ret (v := .agg #[.bool r.s, .slice r.A r.xs.length r.a, .slice r.B r.ys.length r.b]) (by simp [results, Tryz.results20, go_sem, r0, r1, r2]) rfl (hfin.out wa r bw.out hR2.out ha hk.few (by rw [hLk.out]; exact tell_zero hq hk))
end Nt

end Go.Proofs.YtgimmmmpollkhaaGreat

namespace Go.Proofs.YtgimmmmpollkhaaGreat

open Go.ChangeShapes Go.RowKit

namespace Nt
set_option maxRecDepth 100000
set_option linter.unusedSimpArgs false
set_option linter.unusedVariables false

def bcl (l : List Pt) : List Value := l.flatMap Pt.bcs
theorem bcl_push (l : List Pt) (p : Pt) : bcl (l ++ [p]) = bcl l ++ p.bcs := by
  unfold bcl
  rw [List.flatMap_append]
  simp
theorem bcl_get (l : List Pt) (i k : Nat) (hi : i < l.length) (hk : k < 4) : (bcl l)[i * 4 + k]? = l[i].bcs[k]? := by
  induction l generalizing i with
  | nil => simp at hi
  | cons p l ih =>
    show (p.bcs ++ bcl l)[i * 4 + k]? = _
    cases i with
    | zero =>
      rw [List.getElem?_append_left (by show 0 * 4 + k < 4; omega)]
      simp
    | succ i =>
      rw [List.getElem?_append_right (by show 4 ≤ (i + 1) * 4 + k; omega)]
      have e : (i + 1) * 4 + k - p.bcs.length = i * 4 + k := by show (i + 1) * 4 + k - 4 = _; omega
      rw [e, ih i (by simpa using hi)]
      rfl
theorem infB : ∃ i : TypeInfo, Tryz.prog.info? 94 = some i ∧ i.zero = some (.agg #[.int .i64 0, .bool false, .slice none 0 0, .slice none 0 0]) ∧ i.size = 4 ∧ i.bytes = 64 := info_parts (P := Tryz.prog) (e := 94) (z := .agg #[.int .i64 0, .bool false, .slice none 0 0, .slice none 0 0]) (size := 4) (bytes := 64) (by kernel_rfl)
def Bo (w : World) (W : World) (v : Value) (l : List Pt) : Prop := Below w.heap.size w W ∧ W.ownsRow w.heap.size 94 4 v l.length (bcl l)
theorem Bo.nil (w : World) : Bo w w (.slice none 0 0) [] := ⟨.refl _ _, rfl, .inl ⟨rfl, rfl⟩⟩
theorem Bo.next {w W W' : World} {v : Value} {l : List Pt} (h : Bo w W v l) (hb : Below W.heap.size W W') : Bo w W' v l := ⟨bl_trans h.1 hb, Off.row h.2 (Off.of_below hb []) (by simp)⟩
theorem Bo.push {w W : World} {v : Value} {l : List Pt} (h : Bo w W v l) (p : Pt) (hl : l.length ≤ 100000) {x : Nat} (hX : Bk x #[.int .i64 p.t, .bool p.s, .slice p.A p.xs.length p.a, .slice p.B p.ys.length p.b] 94 W) :
    ∃ v' W', (∀ ty, (Builtin.append_ #[45, 45] ty #[v, .slice (some ⟨x, 0, none⟩) 1 1]).run Tryz.prog W = .ok v' W') ∧ Bo w W' v' (l ++ [p]) := by
  obtain ⟨i, hinf, hz, h1, h8⟩ := infB
  have hone : ∀ u ∈ p.bcs, u.oneCell' = true := by
    intro u hu
    simp [Pt.bcs] at hu
    rcases hu with rfl | rfl | rfl | rfl <;> rfl
  have hcells : ∀ j u, p.bcs[j]? = some u → W.cell? ((⟨x, 0, none⟩ : Addr).add j) = some u := by
    intro j u hu
    rw [Addr.add_lit, Nat.zero_add]
    refine hX.cell ?_
    rw [← Array.getElem?_toList]
    exact hu
  obtain ⟨v', W', hr, k2, k3, k4, k5⟩ := run_append_own_at (P := Tryz.prog) W w.heap.size 45 0 94 i _ 4 64 Tryz.underlying45 hinf hz h1 h8 rfl (by decide) v l.length (bcl l) h.2 ⟨x, 0, none⟩ 1 1 p.bcs rfl hcells hone (by unfold maxLen; omega) (by omega) h.1.size
  refine ⟨v', W', fun ty => hr, ?_, ?_⟩
  · refine h.1.trans ((Off.of_grown (T := v.ownBlock.toList) k3 (fun k hk => .inl (by simp [hk]))).below h.1.size fun b hb => ?_)
    rw [Option.mem_toList] at hb
    rcases h.2.2 with ⟨e, _⟩ | ⟨g, cap, cur, e, hg, _⟩
    · rw [e] at hb; cases hb
    · rw [e] at hb; cases hb; exact hg
  · rw [List.length_append, bcl_push]
    exact k2
theorem Bo.bl {w W : World} {v : Value} {l : List Pt} (h : Bo w W v l) (hA : ∀ p ∈ l, p.At W) : ∃ R c, v = .slice R l.length c ∧ Bl W R l := by
  rcases h.2.2 with ⟨e, h0⟩ | ⟨g, cap, cur, e, hg, hc, _, _, _, htk⟩
  · have hl : l = [] := List.eq_nil_of_length_eq_zero h0
    subst hl
    exact ⟨none, 0, e, .inl rfl⟩
  · refine ⟨some ⟨g, 0, none⟩, cap, e, .inr ⟨g, 0, rfl, fun i hi => ⟨?_, hA _ (List.getElem_mem hi)⟩⟩⟩
    have hB : Bk g cur 94 W := hc
    have key : ∀ k (hk : k < 4) v, l[i].bcs[k]? = some v → W.cell? ⟨g, 0 + i * 4 + k, none⟩ = some v := by
      intro k hk v hv
      rw [Nat.zero_add]
      refine hB.cell ?_
      rw [← bcl_get l i k hi hk, ← htk, List.getElem?_take] at hv
      split at hv
      · rw [← Array.getElem?_toList]; exact hv
      · cases hv
    exact ⟨key 0 (by decide) _ rfl, key 1 (by decide) _ rfl, key 2 (by decide) _ rfl, key 3 (by decide) _ rfl⟩
theorem wp_buildB {Q : Exit → Act → World → Prop} {o : Oper} {a : Act} {w : World} {K : Act → World → Prop} (i : Nat) (p : Pt) (n1 n2 : Nat) (h1 : p.xs.length = n1) (h2 : p.ys.length = n2) (ho : o.op = .buildSlice 45 1 #[(0, .tmp i)]) (hx : a.tmps[i]?.getD undef = .agg #[.int .i64 p.t, .bool p.s, .slice p.A n1 p.a, .slice p.B n2 p.b])
    (hK : ∀ w', Bk w.heap.size #[.int .i64 p.t, .bool p.s, .slice p.A p.xs.length p.a, .slice p.B p.ys.length p.b] 94 w' → Below w.heap.size w w' → K (a.put o.dst (.slice (some ⟨w.heap.size, 0, none⟩) 1 1)) w') : Oper.wp Tryz.prog o a w K Q := by
  have h1' := hK (w.alloc (.cells #[.int .i64 p.t, .bool p.s, .slice p.A p.xs.length p.a, .slice p.B p.ys.length p.b] 94)) (Bk.new _ _ _) (bl_al (.refl _ _) _)
  clear hK
  rw [h1, h2] at h1'
  unfold Oper.wp
  simp only [execOp, ho]
  go_simp
  exact h1'
def BndO (l : List Pt) (w : World) (e : Ending) (w' : World) : Prop := ∃ R c, e = .returned (.slice R l.length c) ∧ Bl w' R l ∧ Below w.heap.size w w'
set_option maxHeartbeats 8000000 in
theorem binds9_any (A : Option Addr) (l : List Pt) (k : Nat) (w : World) (hl : Bl w A l) (hn : l.length ≤ 1000) :
    Calls Tryz.prog 42 #[.slice A l.length k] w (BndO l w) := by
  have hP := hide hl
  have h0 := hide (Bo.nil w)
  obtain ⟨n, hnn⟩ : ∃ n, n = l.length := ⟨_, rfl⟩
  have hfin := hide (fun W v (h : Bo w W v l) => (show ∃ R c, v = .slice R n c ∧ BndO l w (.returned (.slice R n c)) W from by
    obtain ⟨R, c, e, hB⟩ := h.bl (fun p hp => by
      obtain ⟨i, hi, rfl⟩ := List.getElem_of_mem hp
      obtain ⟨_, _, _, _, ha⟩ := hl.get hi
      exact ha.next h.1)
    rw [← hnn] at e
    exact ⟨R, c, e, R, c, by rw [← hnn], hB, h.1⟩))
  clear hl
  rw [← hnn] at hn ⊢
  replace hnn := hide hnn
  go_enter Tryz.func42, Tryz.ntmps42
  go_wp2
  go_loopw [3, 4] (fun vs ix wr => ∃ (i : Nat) (v : Value), i ≤ n ∧ ix = .int .i64 (i : Int) ∧ vs = v ∧ Bo w wr v (l.take i)) (fun _ ix _ => n - (intOf ix).toNat)
  case atStart => exact ⟨0, _, Nat.zero_le _, rfl, rfl, h0.out⟩
  case round =>
    obtain ⟨i, v, hi, rfl, rfl, hB⟩ := hrel
    by_cases hlt : i < n
    · have hil : i < l.length := by rw [← hnn.out]; exact hlt
      obtain ⟨g, o, rfl, ⟨x0, x1, x2, x3⟩, hat⟩ := hP.out.get hil
      have hs := hide (take_part hil)
      have hlt' : (i : Int) < (n : Int) := by omega
      have hlen : (l.take i).length ≤ 100000 := by rw [List.length_take]; omega
      have hB2 := hide hB
      clear hP hat hfin hB
      replace hlen := hide hlen
      generalize l[i] = p at *
      have SS := hide (fun W (b : Below w.heap.size w W) => (show W.cell? ⟨g, o + i * 4, none⟩ = some (.int .i64 p.t) ∧ W.cell? ⟨g, o + i * 4 + 1, none⟩ = some (.bool p.s) ∧ W.cell? ⟨g, o + i * 4 + 2, none⟩ = some (.slice p.A p.xs.length p.a) ∧ W.cell? ⟨g, o + i * 4 + 3, none⟩ = some (.slice p.B p.ys.length p.b) from ⟨cell_next b x0, cell_next b x1, cell_next b x2, cell_next b x3⟩))
      clear x0 x1 x2 x3
      obtain ⟨p1, hp1⟩ : ∃ j, p.xs.length = j := ⟨_, rfl⟩
      obtain ⟨p2, hp2⟩ : ∃ j, p.ys.length = j := ⟨_, rfl⟩
      rw [hp1, hp2] at SS
      replace hp1 := hide hp1; replace hp2 := hide hp2
      go_wp2_with fail
      refine wp_region_held_drew (S := (fun W => W.cell? ⟨g, o + i * 4, none⟩ = some (.int .i64 p.t) ∧ W.cell? ⟨g, o + i * 4 + 1, none⟩ = some (.bool p.s) ∧ W.cell? ⟨g, o + i * 4 + 2, none⟩ = some (.slice p.A p1 p.a) ∧ W.cell? ⟨g, o + i * 4 + 3, none⟩ = some (.slice p.B p2 p.b))) (by kernel_rfl) ?_ (fun hHeld => ?_)
      · (try dsimp only)
        exact SS.out _ (bl_trans hB2.out.1 (ka0 wr))
      refine wpAnyH_take (i := 0) (v := ?vv0) (by (simp only [List.getElem?_toArray, List.getElem?_cons_zero, List.getElem?_cons_succ]) <;> rfl) (by kernel_rfl) (by kernel_rfl) (by kernel_rfl) ?hq0 (Or.inl ⟨by rfl, ?hy0⟩) (by assumption) ?_
      case hq0 => exact fun _ _ _ h => h
      case hy0 => ((intro w hSw; (try dsimp only at hSw); go_simp) <;> (with_reducible rfl))
      (try simp only [Act.put, List.setIfInBounds_toArray, List.set_cons_zero, List.set_cons_succ])
      refine wpAnyH_take (i := 1) (v := ?vv1) (by (simp only [List.getElem?_toArray, List.getElem?_cons_zero, List.getElem?_cons_succ]) <;> rfl) (by kernel_rfl) (by kernel_rfl) (by kernel_rfl) ?hq1 (Or.inl ⟨by rfl, ?hy1⟩) (by assumption) ?_
      case hq1 => exact fun _ _ _ h => h
      case hy1 => ((intro w hSw; (try dsimp only at hSw); go_simp) <;> (with_reducible rfl))
      (try simp only [Act.put, List.setIfInBounds_toArray, List.set_cons_zero, List.set_cons_succ])
      refine wpAnyH_take (i := 2) (v := ?vv2) (by (simp only [List.getElem?_toArray, List.getElem?_cons_zero, List.getElem?_cons_succ]) <;> rfl) (by kernel_rfl) (by kernel_rfl) (by kernel_rfl) ?hq2 (Or.inl ⟨by rfl, ?hy2⟩) (by assumption) ?_
      case hq2 => exact fun _ _ _ h => h
      case hy2 => ((intro w hSw; (try dsimp only at hSw); go_simp) <;> (with_reducible rfl))
      (try simp only [Act.put, List.setIfInBounds_toArray, List.set_cons_zero, List.set_cons_succ])
      refine wpAnyH_take (i := 3) (v := ?vv3) (by (simp only [List.getElem?_toArray, List.getElem?_cons_zero, List.getElem?_cons_succ]) <;> rfl) (by kernel_rfl) (by kernel_rfl) (by kernel_rfl) ?hq3 (Or.inl ⟨by rfl, ?hy3⟩) (by assumption) ?_
      case hq3 => exact fun _ _ _ h => h
      case hy3 => ((intro w hSw; (try dsimp only at hSw); go_simp) <;> (with_reducible rfl))
      (try simp only [Act.put, List.setIfInBounds_toArray, List.set_cons_zero, List.set_cons_succ])
      refine wpAnyH_take (i := 4) (v := ?vv4) (by (simp only [List.getElem?_toArray, List.getElem?_cons_zero, List.getElem?_cons_succ]) <;> rfl) (by kernel_rfl) (by kernel_rfl) (by kernel_rfl) ?hq4 (Or.inl ⟨by rfl, ?hy4⟩) (by assumption) ?_
      case hq4 => exact fun _ _ _ h => h
      case hy4 => ((intro w hSw; (try dsimp only at hSw); go_simp) <;> (with_reducible rfl))
      (try simp only [Act.put, List.setIfInBounds_toArray, List.set_cons_zero, List.set_cons_succ])
      refine wpAnyH_take (i := 5) (v := ?vv5) (by (simp only [List.getElem?_toArray, List.getElem?_cons_zero, List.getElem?_cons_succ]) <;> rfl) (by kernel_rfl) (by kernel_rfl) (by kernel_rfl) ?hq5 (Or.inl ⟨by rfl, ?hy5⟩) (by assumption) ?_
      case hq5 => exact fun _ _ _ h => h
      case hy5 => ((intro w hSw; (try dsimp only at hSw); go_simp) <;> (with_reducible rfl))
      (try simp only [Act.put, List.setIfInBounds_toArray, List.set_cons_zero, List.set_cons_succ])
      refine wpAnyH_take (i := 6) (v := ?vv6) (by (simp only [List.getElem?_toArray, List.getElem?_cons_zero, List.getElem?_cons_succ]) <;> rfl) (by kernel_rfl) (by kernel_rfl) (by kernel_rfl) ?hq6 (Or.inl ⟨by rfl, ?hy6⟩) (by assumption) ?_
      case hq6 => exact fun _ _ _ h => h
      case hy6 => ((intro w hSw; (try dsimp only at hSw); go_simp) <;> (with_reducible rfl))
      (try simp only [Act.put, List.setIfInBounds_toArray, List.set_cons_zero, List.set_cons_succ])
      refine wpAnyH_take (i := 7) (v := ?vv7) (by (simp only [List.getElem?_toArray, List.getElem?_cons_zero, List.getElem?_cons_succ]) <;> rfl) (by kernel_rfl) (by kernel_rfl) (by kernel_rfl) ?hq7 (Or.inl ⟨by rfl, ?hy7⟩) (by assumption) ?_
      case hq7 => exact fun _ _ _ h => h
      case hy7 => ((intro w hSw; (try dsimp only at hSw); go_simp) <;> (with_reducible rfl))
      (try simp only [Act.put, List.setIfInBounds_toArray, List.set_cons_zero, List.set_cons_succ])
      refine wpAnyH_take (i := 8) (v := ?vv8) (by (simp only [List.getElem?_toArray, List.getElem?_cons_zero, List.getElem?_cons_succ]) <;> rfl) (by kernel_rfl) (by kernel_rfl) (by kernel_rfl) ?hq8 (Or.inl ⟨by rfl, ?hy8⟩) (by assumption) ?_
      case hq8 => exact fun _ _ _ h => h
      case hy8 => ((intro w hSw; (try dsimp only at hSw); go_simp) <;> (with_reducible rfl))
      (try simp only [Act.put, List.setIfInBounds_toArray, List.set_cons_zero, List.set_cons_succ])
      refine wpAnyH_take (i := 9) (v := ?vv9) (by (simp only [List.getElem?_toArray, List.getElem?_cons_zero, List.getElem?_cons_succ]) <;> rfl) (by kernel_rfl) (by kernel_rfl) (by kernel_rfl) ?hq9 (Or.inl ⟨by rfl, ?hy9⟩) (by assumption) ?_
      case hq9 => exact fun _ _ _ h => h
      case hy9 => ((intro w hSw; (try dsimp only at hSw); go_simp) <;> (with_reducible rfl))
      (try simp only [Act.put, List.setIfInBounds_toArray, List.set_cons_zero, List.set_cons_succ])
      refine wpAnyH_take (i := 10) (v := ?vv10) (by (simp only [List.getElem?_toArray, List.getElem?_cons_zero, List.getElem?_cons_succ]) <;> rfl) (by kernel_rfl) (by kernel_rfl) (by kernel_rfl) ?hq10 (Or.inl ⟨by rfl, ?hy10⟩) (by assumption) ?_
      case hq10 => exact fun _ _ _ h => h
      case hy10 => ((intro w hSw; (try dsimp only at hSw); go_simp) <;> (with_reducible rfl))
      (try simp only [Act.put, List.setIfInBounds_toArray, List.set_cons_zero, List.set_cons_succ])
      refine wpAnyH_take (i := 11) (v := ?vv11) (by (simp only [List.getElem?_toArray, List.getElem?_cons_zero, List.getElem?_cons_succ]) <;> rfl) (by kernel_rfl) (by kernel_rfl) (by kernel_rfl) ?hq11 (Or.inl ⟨by rfl, ?hy11⟩) (by assumption) ?_
      case hq11 => exact fun _ _ _ h => h
      case hy11 => ((intro w hSw; (try dsimp only at hSw); go_simp) <;> (with_reducible rfl))
      (try simp only [Act.put, List.setIfInBounds_toArray, List.set_cons_zero, List.set_cons_succ])
      refine wpAnyH_ready (rs := [12]) (by kernel_rfl) (by simp) ?_
      refine AllReadyH.cons (by (simp only [List.getElem?_toArray, List.getElem?_cons_zero, List.getElem?_cons_succ]) <;> rfl) (fun K hK => ?_) AllReadyH.nil
      rw [if_pos (by rfl)]
      refine wp_buildB 22 p _ _ hp1.out hp2.out rfl rfl ?_
      intro W12 hB12 hb12
      have hb12' := hide (bl_trans (ka0 wr) hb12)
      replace hB12 := hide hB12
      clear hb12
      refine hK.out _ _ ?_ (fun hHeld => ?_)
      · (try dsimp only)
        exact SS.out _ (bl_trans hB2.out.1 hb12'.out)
      (try clear hK K)
      (try simp only [Act.put, List.setIfInBounds_toArray, List.set_cons_zero, List.set_cons_succ])
      refine wpAnyH_ready (rs := [13]) (by kernel_rfl) (by simp) ?_
      refine AllReadyH.cons (by (simp only [List.getElem?_toArray, List.getElem?_cons_zero, List.getElem?_cons_succ]) <;> rfl) (fun K hK => ?_) AllReadyH.nil
      rw [if_pos (by rfl)]
      refine wp_append_ex (.tmp 11) (.tmp 23) 45 rfl _ (.slice (some ⟨_, 0, none⟩) 1 1) rfl rfl _ (Bo.push (hB2.out.next hb12'.out) p hlen.out hB12.out) ?_
      rintro v13 W13 hB13
      replace hB13 := hide hB13
      refine hK.out _ _ ?_ (fun hHeld => ?_)
      · (try dsimp only)
        exact SS.out _ hB13.out.1
      (try clear hK K)
      (try simp only [Act.put, List.setIfInBounds_toArray, List.set_cons_zero, List.set_cons_succ])
      refine wpAnyH_take (i := 14) (v := ?vv14) (by (simp only [List.getElem?_toArray, List.getElem?_cons_zero, List.getElem?_cons_succ]) <;> rfl) (by kernel_rfl) (by kernel_rfl) (by kernel_rfl) ?hq14 (Or.inl ⟨by rfl, ?hy14⟩) (by assumption) ?_
      case hq14 => exact fun _ _ _ h => h
      case hy14 => ((intro w hSw; (try dsimp only at hSw); go_simp) <;> (with_reducible rfl))
      (try simp only [Act.put, List.setIfInBounds_toArray, List.set_cons_zero, List.set_cons_succ])
      refine wpAnyH_done (by kernel_rfl) ?_ _
      go_wp2_with fail
      go_roundw
      case rel => exact ⟨i + 1, _, hlt, by go_num, rfl, by rw [hs.out]; exact hB13.out⟩
      case measure => simp only [intOf]; omega
    · have hin : i = n := by omega
      have hB' := hB
      rw [hin, hnn.out, List.take_length] at hB'
      obtain ⟨R, c, rfl, hF⟩ := hfin.out _ _ hB'
      have hlt' : ¬ (i : Int) < (n : Int) := by omega
      replace hF := hide hF
      clear hB hB' hP hfin
      go_wp2_with fail
      go_ret
      exact hF.out
set_option maxHeartbeats 4000000 in
theorem tellT9_any (A : Option Addr) (l : List Pt) (k : Nat) (g : Nat) (t : Int) (w : World) (hl : Bl w A l) (hf : ∀ p ∈ l, p.Few) (hn : l.length ≤ 1000) (hg : w.cell? ⟨g, 0, none⟩ = some (.slice A l.length k)) :
    Calls Tryz.prog 41 #[.int .i64 t, .pointer (some ⟨g, 0, none⟩)] w (TellO (lookT l) t w) := by
  have hB := hide (fun W (b : Below w.heap.size w W) => binds9_any A l k W (hl.next b) hn)
  have hL := hide (fun R c W (h : Bl W R l) => look_any R l c t W h hf hn)
  have hX := hide (Bk.new zR 25 w)
  have hb := hide (bl_al (.refl _ _) (.cells zR 25) : Below w.heap.size w (w.alloc (.cells zR 25)))
  have hg' := cell_next hb.out hg
  have hfin := hide (fun W (r : Pt) (hb : Below w.heap.size w W) (hB : Bk w.heap.size zR 25 W) (ha : r.At W) (hf : r.Few) (he : (r.s, r.xs, r.ys) = lookT l t) =>
    (show TellO (lookT l) t w (.returned (.agg #[.bool r.s, .slice r.A r.xs.length r.a, .slice r.B r.ys.length r.b])) (((W.setCell ⟨w.heap.size, 0, none⟩ (.bool r.s)).setCell ⟨w.heap.size, 1, none⟩ (.slice r.A r.xs.length r.a)).setCell ⟨w.heap.size, 2, none⟩ (.slice r.B r.ys.length r.b)) from
      ⟨r, rfl, he, at_offR hB ha (off3 _ _ _ _ _), hf, hb.trans ((off3 _ _ _ _ _).below hb.size (fun b hb => by simp at hb; omega))⟩))
  clear hl hf hg
  unfold zR at hX hb hg'
  obtain ⟨n, hnn⟩ : ∃ n, n = l.length := ⟨_, rfl⟩
  rw [← hnn] at hg' hB hL hn
  replace hnn := hide hnn
  go_enter Tryz.func41, Tryz.ntmps41
  go_wp2_with (first
    | (go_at_call 42; (with_reducible refine (hB.out _ hb.out).mono ?_); rintro e wa ⟨R, c, rfl, hR, hb2⟩; have bw := hide (bl_trans hb.out hb2); have hX2 := hide (hX.out.next hb2); rw [← hnn.out]; clear hb2 hg')
    | (go_at_call 20; (with_reducible refine (hL.out R c _ hR).mono ?_); rintro e wb ⟨r, rfl, he, ha, hfw, hb3⟩; have hX3 := hide (hX2.out.next hb3); have bw3 := hide (bl_trans bw.out hb3); have r0 := hX3.out.cell (j := 0) rfl; have r1 := hX3.out.cell (j := 1) rfl; have r2 := hX3.out.cell (j := 2) rfl; have s0 := hX3.out.free 0; have s1 := hX3.out.free 1; have s2 := hX3.out.free 2; clear hb3 hR)
    | fail)
  exact bodyPost_ret (v := .agg #[.bool r.s, .slice r.A r.xs.length r.a, .slice r.B r.ys.length r.b]) (by simp [results, Tryz.results41, go_sem, r0, r1, r2]) rfl (hfin.out _ r bw3.out hX3.out ha hfw he)
theorem entersT9 (args : Array Value) (W : World) : (callFunc 41 args).run Tryz.prog W = .ok (.enter 41 args) W := enters_of Tryz.func41 rfl rfl args W
end Nt

end Go.Proofs.YtgimmmmpollkhaaGreat

namespace Go.Proofs.YtgimmmmpollkhaaGreat

open Go.ChangeShapes Go.RowKit

namespace Nt
set_option maxRecDepth 100000
set_option linter.unusedSimpArgs false
set_option linter.unusedVariables false

structure Vs (w : World) (c : Pt) (A : Option Addr) (n k gs : Nat) (s : Pt) (W : World) : Prop where
  b : Below w.heap.size w W
  x : C4 w.heap.size (.slice A n k) (.bool c.s) (.slice c.A c.xs.length c.a) (.slice c.B c.ys.length c.b) W
  r : Bk (w.heap.size + 1) zR 25 W
  sb : Bk gs #[.bool s.s, .slice s.A s.xs.length s.a, .slice s.B s.ys.length s.b] 25 W
  sa : s.At W
  ok : s.Ok
  hg : w.heap.size + 2 ≤ gs
section

variable {w W W' : World} {c s : Pt} {A : Option Addr} {n k gs : Nat}
theorem Vs.next (h : Vs w c A n k gs s W) (hb : Below W.heap.size W W') : Vs w c A n k gs s W' :=
  ⟨bl_trans h.b hb, h.x.next hb, h.r.next hb, h.sb.next hb, h.sa.next hb, h.ok, h.hg⟩
theorem Vs.put (h : Vs w c A n k gs s W) (r : Pt) (hr : r.Ok) (aR : r.At W) : Vs w c A n k gs r (((W.setCell ⟨gs, 0, none⟩ (.bool r.s)).setCell ⟨gs, 1, none⟩ (.slice r.A r.xs.length r.a)).setCell ⟨gs, 2, none⟩ (.slice r.B r.ys.length r.b)) := by
  have hO := off3 gs W (.bool r.s) (.slice r.A r.xs.length r.a) (.slice r.B r.ys.length r.b)
  have hg := h.hg
  exact ⟨h.b.trans (hO.below h.b.size (fun b hb => by simp at hb; omega)), h.x.off hO (by simp; omega), h.r.off hO (by simp; omega), (((h.sb.set (.bool r.s) rfl).set (.slice r.A r.xs.length r.a) rfl).set (.slice r.B r.ys.length r.b) rfl), ⟨h.sb.sl (box_noU s) aR.1 hO, h.sb.sl (box_noU s) aR.2 hO⟩, hr, hg⟩
theorem Vs.start (w : World) (c : Pt) (A : Option Addr) (n k : Nat) {W : World} (hb : Below (Cw w c A n k).heap.size (Cw w c A n k) W) (hc : c.At W) (fc : c.Ok) : Vs w c A n k W.heap.size c (W.alloc (.cells #[.bool c.s, .slice c.A c.xs.length c.a, .slice c.B c.ys.length c.b] 25)) := by
  obtain ⟨hx, hR, hbw⟩ := Cw.start w c A n k hb
  have hs : w.heap.size + 2 ≤ W.heap.size := by
    have := hb.size
    unfold Cw at this
    simpa using this
  exact ⟨bl_al hbw _, hx.next (bl_al (.refl _ _) _), hR.al _, Bk.new _ _ _, hc.next (bl_al (.refl _ _) _), fc, hs⟩
theorem Vs.done (h : Vs w c A n k gs s W) : NewQ s.q 0 w (.returned (.tuple #[.agg #[.bool s.s, .slice s.A s.xs.length s.a, .slice s.B s.ys.length s.b], .int .i64 0])) (((W.setCell ⟨w.heap.size + 1, 0, none⟩ (.bool s.s)).setCell ⟨w.heap.size + 1, 1, none⟩ (.slice s.A s.xs.length s.a)).setCell ⟨w.heap.size + 1, 2, none⟩ (.slice s.B s.ys.length s.b)) := by
  have hO := off3 (w.heap.size + 1) W (.bool s.s) (.slice s.A s.xs.length s.a) (.slice s.B s.ys.length s.b)
  exact ⟨s.as 0, rfl, rfl, rfl, h.ok.as 0, (at_offR h.r h.sa hO).as 0, h.b.trans (hO.below h.b.size (fun b hb => by simp at hb; omega))⟩
end
set_option maxHeartbeats 8000000 in
theorem rvalue_ok (A B : Option Addr) (l lb : List Pt) (k kb : Nat) (c : Pt) (w : World) (hl : Pl w A l) (hc : c.At w) (fl : ∀ p ∈ l, p.Ok) (fc : c.Ok) (hv : pvB (-1) l = true) (hn : l.length ≤ 1000) (hbl : Bl w B lb) (fb : ∀ p ∈ lb, p.Few) (hnb : lb.length ≤ 1000)
    (hfit : ∀ p ∈ l, oOk (lookT lb) p.t = true → fitB (p.q * oq (lookT lb) p.t) = true) :
    Calls Tryz.prog 22 #[polyV A l.length k c, .slice B lb.length kb] w (VaR w (lookT lb) (l.map Pt.qt) c.q) := by
  have hV := hide (fun W (b : Below w.heap.size w W) => rvalidP_any A l k c W (hl.next b) (hc.next b) (fun p hp => (fl p hp).few) fc.few hn true (by rw [hv, fc.valid]; rfl))
  have hLk := hide (fun t W (b : Below w.heap.size w W) => look_any B lb kb t W (hbl.next b) fb hnb)
  have hP := hide (fun W (b : Below w.heap.size w W) => hl.next b)
  have hPg := hide (fun i (h : i < l.length) => hl.get h)
  have hst := hide (fun W (b : Below (Cw w c A l.length k).heap.size (Cw w c A l.length k) W) => Cw.start w c A l.length k b)
  have hvs := hide (fun W (b : Below (Cw w c A l.length k).heap.size (Cw w c A l.length k) W) => Vs.start w c A l.length k b (hc.next (bl_trans (bl_al (bl_al (.refl _ _) _) _) b)) fc)
  have hb0 : Below w.heap.size w (Cw w c A l.length k) := bl_al (bl_al (.refl _ _) _) _
  have hcc := hide (fun W (b : Below w.heap.size w W) => hc.next b)
  obtain ⟨o, ho⟩ : ∃ o, lookT lb = o := ⟨_, rfl⟩
  rw [ho] at hLk hfit ⊢
  have hno := hide (fun (i : Nat) (hi : i < l.length) (h : oOk o l[i].t = false) W (b : Below w.heap.size w W) u0 u1 u2 => (show VaR w o (l.map Pt.qt) c.q (.returned (.tuple #[.agg #[.bool false, .slice none 0 0, .slice none 0 0], .int .i64 1])) (((W.setCell ⟨w.heap.size + 1, 0, none⟩ u0).setCell ⟨w.heap.size + 1, 1, none⟩ u1).setCell ⟨w.heap.size + 1, 2, none⟩ u2) from
    .inr ⟨(by
      rw [all_qt]
      refine Bool.eq_false_iff.2 fun e => ?_
      have := List.all_eq_true.1 e l[i] (List.getElem_mem hi)
      rw [h] at this
      cases this), rno_done 1 b (by omega) u0 u1 u2⟩))
  have hall1 := hide (fun (h : l.all (fun p => oOk o p.t) = true) => (show (l.map Pt.qt).all (fun x => oOk o x.2) = true by rw [all_qt]; exact h))
  replace hfit := hide hfit
  clear hl hc hv hbl fb hnb ho
  obtain ⟨n, hnn⟩ : ∃ n, n = l.length := ⟨_, rfl⟩
  unfold polyV at *
  rw [← hnn] at hV hst hvs hb0 hn ⊢
  replace hnn := hide hnn
  have hbz := hide (hst.out _ (Below.refl _ _))
  unfold Cw zR at hb0 hst hvs hbz
  replace hst := hide hst.out
  replace hvs := hide hvs.out
  replace hb0 := hide hb0
  obtain ⟨⟨x0, x1, x2, x3⟩, _, _⟩ := hbz.out
  clear hbz
  go_enter Tryz.func22, Tryz.ntmps22
  go_wp2_with (go_at_call 26; (with_reducible refine (hV.out _ hb0.out).mono ?_); rintro e w1 ⟨rfl, hb⟩; clear x0 x1 x2 x3; have hb1 := hide hb; clear hb)
  clear hV hb0
  go_loopw [6] (fun ix wr => ∃ i : Nat, i ≤ n ∧ ix = .int .i64 (i : Int) ∧ (l.take i).all (fun p => oOk o p.t) = true ∧ Below w1.heap.size w1 wr) (fun ix _ => n - (intOf ix).toNat)
  case atStart => exact ⟨0, Nat.zero_le _, rfl, rfl, .refl _ _⟩
  case round =>
    obtain ⟨i, hi, rfl, hall, hbr⟩ := hrel
    have hb2 := bl_trans hb1.out hbr
    obtain ⟨⟨x0, x1, x2, x3⟩, hR, hbw⟩ := hst.out wr hb2
    by_cases hlt : i < n
    · have hil : i < l.length := by rw [← hnn.out]; exact hlt
      obtain ⟨g1, o1, rfl, ⟨c0, c1, c2, c3⟩, _⟩ := (hP.out wr hbw).get hil
      have hlt' : (i : Int) < (n : Int) := by omega
      have hs := hide (take_part hil)
      have hno := hide (hno.out i hil)
      have hLk := hide (hLk.out l[i].t wr hbw)
      replace hbw := hide hbw
      replace hall := hide hall
      replace hR := hide hR
      replace hbr := hide hbr
      clear hP hPg hfit hvs
      generalize l[i] = p at *
      obtain ⟨b, hbk⟩ : ∃ b, oOk o p.t = b := ⟨_, rfl⟩
      have hVd := hide (fun (v : Pt) W (h : (v.s, v.xs, v.ys) = o p.t) (hf : v.Few) (ha : v.At W) => rvalidQ_any v.s v.A v.B v.a v.b v.xs v.ys W ha.1 ha.2 hf.lx hf.ly hf.mx hf.my b (by rw [← hbk, ← (tell_ok h).1]; rfl))
      replace hbk := hide hbk
      clear c0 c1 c2
      cases b with
      | false =>
        go_wp2_with (first
          | (go_at_call 20; (with_reducible refine hLk.out.mono ?_); rintro e wa ⟨v, rfl, hv, ha, hf, hb⟩; have bw := hide (bl_trans hbw.out hb); have hR2 := hide (hR.out.next hb); clear hb)
          | (go_at_call 30; (with_reducible refine (hVd.out v _ hv hf ha).mono ?_); rintro e wb ⟨rfl, hb⟩; have bw2 := hide (bl_trans bw.out hb); have hR3 := hide (hR2.out.next hb); have r0 := hR3.out.cell (j := 0) rfl; have r1 := hR3.out.cell (j := 1) rfl; have r2 := hR3.out.cell (j := 2) rfl; have s0 := hR3.out.free 0; have s1 := hR3.out.free 1; have s2 := hR3.out.free 2; clear hb)
          | fail)
        exact bodyPost_ret (v := .tuple #[.agg #[.bool false, .slice none 0 0, .slice none 0 0], .int .i64 1]) (by simp [results, Tryz.results22, go_sem, r0, r1, r2]) rfl (hno.out hbk.out _ bw2.out _ _ _)
      | true =>
        clear hno hR
        go_wp2_with (first
          | (go_at_call 20; (with_reducible refine hLk.out.mono ?_); rintro e wa ⟨v, rfl, hv, ha, hf, hb⟩; have bw := hide (bl_trans hbr.out hb); clear hb)
          | (go_at_call 30; (with_reducible refine (hVd.out v _ hv hf ha).mono ?_); rintro e wb ⟨rfl, hb⟩; have bw2 := hide (bl_trans bw.out hb); clear hb)
          | fail)
        go_roundw
        case rel =>
          refine ⟨i + 1, hlt, by go_num, ?_, bw2.out⟩
          rw [hs.out, List.all_append, hall.out]
          simp [hbk.out]
        case measure => simp only [intOf]; omega
    · have hin : i = n := by omega
      have hall2 := hide (hall1.out (by rw [hin, hnn.out, List.take_length] at hall; exact hall))
      have hok := hide (fun (p : Pt) (hp : p ∈ l) => (show oOk o p.t = true from by
        rw [hin, hnn.out, List.take_length] at hall
        exact List.all_eq_true.1 hall p hp))
      have hX := hide (hvs.out wr hb2)
      have hlt' : ¬ (i : Int) < (n : Int) := by omega
      clear hall hall1 hno hbw hR hst hvs hcc hbr hPg
      go_wp2_with fail
      generalize wr.heap.size = gs at *
      generalize wr.alloc _ = w2 at *
      go_loopw [8] (fun ix wr => ∃ (j : Nat) (s : Pt), j ≤ n ∧ ix = .int .i64 (j : Int) ∧ valF c.q (valL o (l.map Pt.qt)) = valF s.q (valL o ((l.drop j).map Pt.qt)) ∧ Vs w c A n k gs s wr) (fun ix _ => n - (intOf ix).toNat)
      case atStart => exact ⟨0, c, Nat.zero_le _, rfl, rfl, hX.out⟩
      case round =>
        obtain ⟨j, s, hj, rfl, hval, hX2⟩ := hrel
        by_cases hlt2 : j < n
        · have hil : j < l.length := by rw [← hnn.out]; exact hlt2
          obtain ⟨g1, o1, rfl, ⟨c0, c1, c2, c3⟩, hat⟩ := (hP.out wr hX2.b).get hil
          obtain ⟨x0, _, _, _⟩ := hX2.x
          have hmem : l[j] ∈ l := List.getElem_mem hil
          have okp := hide (fl l[j] hmem)
          have okv := hide (hok.out l[j] hmem)
          have hft := hide (hfit.out l[j] hmem okv.out)
          have hLk1 := hide (fun W (b : Below wr.heap.size wr W) => hLk.out l[j].t W (bl_trans hX2.b b))
          have hd : l.drop j = l[j] :: l.drop (j + 1) := List.drop_eq_getElem_cons hil
          rw [hd] at hval
          replace hval : valF c.q (valL o (l.map Pt.qt)) = valF s.q ((l[j].q, oq o l[j].t) :: valL o ((l.drop (j + 1)).map Pt.qt)) := hval
          have hlt' : (j : Int) < (n : Int) := by omega
          have hat2 := hide hat
          have hXs := hide hX2
          replace hval := hide hval
          have hgs := hX2.hg
          have hwv := hX2.b.size
          clear hP hok hfit hLk hd fl hat hX2 hmem hX
          generalize l[j] = p at *
          have SF := hide (fun W (b : Below wr.heap.size wr W) => (show W.cell? ⟨w.heap.size, 0, none⟩ = some (.slice (some ⟨g1, o1, none⟩) n k) ∧ W.cell? ⟨g1, o1 + j * 4, none⟩ = some (.bool p.s) ∧ W.cell? ⟨g1, o1 + j * 4 + 1, none⟩ = some (.slice p.A p.xs.length p.a) ∧ W.cell? ⟨g1, o1 + j * 4 + 2, none⟩ = some (.slice p.B p.ys.length p.b) ∧ W.cell? ⟨g1, o1 + j * 4 + 3, none⟩ = some (.int .i64 p.t) from ⟨cell_next b x0, cell_next b c0, cell_next b c1, cell_next b c2, cell_next b c3⟩))
          have hM := hide (fun (v : Pt) W (hv : v.Ok) (hq : v.q = oq o p.t) (ap : p.At W) (av : v.At W) => rmul_p okp.out hv W ap av (by rw [hq]; exact hft.out))
          unfold rv at hM
          go_wp2_with fail
          go_region_held3 (fun W => W.cell? ⟨w.heap.size, 0, none⟩ = some (.slice (some ⟨g1, o1, none⟩) n k) ∧ W.cell? ⟨g1, o1 + j * 4, none⟩ = some (.bool p.s) ∧ W.cell? ⟨g1, o1 + j * 4 + 1, none⟩ = some (.slice p.A p.xs.length p.a) ∧ W.cell? ⟨g1, o1 + j * 4 + 2, none⟩ = some (.slice p.B p.ys.length p.b) ∧ W.cell? ⟨g1, o1 + j * 4 + 3, none⟩ = some (.int .i64 p.t))
            (first
              | (with_reducible exact SF.out _ (ka0 wr))
              | (with_reducible exact SF.out _ (ka1 wr _))
              | (with_reducible exact SF.out _ be)
              | (with_reducible exact SF.out _ (bl_al be _))
              | (with_reducible exact SF.out _ (be.trans ((off3 _ _ _ _ _).below be.size (fun b hb => by simp at hb; omega))))
              | (with_reducible exact SF.out _ bc)
              | (with_reducible exact SF.out _ (bl_al bc _))
              | fail)
            (first
              | (go_at_call 20; (with_reducible refine (hLk1.out _ ?hw).mono ?_); (case hw => first | (with_reducible exact ka0 wr) | (with_reducible exact ka1 wr _) | fail); rintro e wa ⟨v, rfl, hv, hva, hvf, hb⟩; have bc : Below wr.heap.size wr wa := (by first | (with_reducible exact bl_trans (ka0 wr) hb) | (with_reducible exact bl_trans (ka1 wr _) hb)); have n1 := bc.size; have hvok := hide (ok_of hvf ((tell_ok hv).1.trans okv.out)); have hvq := hide (tell_ok hv).2; (first | (have hZ : Hid (Bk wr.heap.size #[.bool false, .slice none 0 0, .slice none 0 0] 25 wa) := by with_reducible exact hide (zd hb)) | skip); clear hb hvf)
              | (go_at_call 59; (with_reducible refine (hM.out v _ hvok.out hvq.out (hat2.out.next ?h1) (hva.next ?h2)).mono ?_); (case h1 => first | (with_reducible exact bc) | (with_reducible exact bl_al bc _) | fail); (case h2 => first | (with_reducible exact .refl _ _) | (with_reducible exact bl_al (.refl _ _) _) | fail); rintro e wd ⟨r, rfl, hq, ht, hrok, har, hb⟩; have g2 : Below wa.heap.size wa wd := (by first | (with_reducible exact hb) | (with_reducible exact bl_one hb)); have be := bl_trans bc g2; have n3 := be.size; have n4 := g2.size; (first | (have hZ3 := hide (hZ.out.next g2)) | (have hZ3 : Hid (Bk wa.heap.size #[.bool false, .slice none 0 0, .slice none 0 0] 25 wd) := by with_reducible exact hide (z1 hb)) | skip); (first | (have v0 := hZ3.out.cell (j := 0) rfl; have v1 := hZ3.out.cell (j := 1) rfl; have v2 := hZ3.out.cell (j := 2) rfl; have u0 := hZ3.out.free 0; have u1 := hZ3.out.free 1; have u2 := hZ3.out.free 2) | skip); clear hb)
              | fail)
          · have HB := hide (Bk.new #[.bool r.s, .slice r.A r.xs.length r.a, .slice r.B r.ys.length r.b] 25 wd)
            have ha2 := hide (har.next (bl_al (.refl _ _) (.cells #[.bool r.s, .slice r.A r.xs.length r.a, .slice r.B r.ys.length r.b] 25)))
            have hbb := hide (bl_al be (.cells #[.bool r.s, .slice r.A r.xs.length r.a, .slice r.B r.ys.length r.b] 25))
            generalize wd.alloc (.cells #[.bool r.s, .slice r.A r.xs.length r.a, .slice r.B r.ys.length r.b] 25) = wy at *
            have hX3 := hide (hXs.out.next hbb.out)
            have hrq : r.q = p.q * oq o p.t := by rw [hq, hvq.out]
            replace hrq := hide hrq
            have sb0 := hX3.out.sb.cell (j := 0) rfl
            have sb1 := hX3.out.sb.cell (j := 1) rfl
            have sb2 := hX3.out.sb.cell (j := 2) rfl
            have tb0 := HB.out.cell (j := 0) rfl
            have tb1 := HB.out.cell (j := 1) rfl
            have tb2 := HB.out.cell (j := 2) rfl
            have e0 : binOp .eql 3 (.int .i64 0) (.int .i64 0) = pure (.bool true) := rfl
            clear SF hbb hM har hq ht hvq hvok c0 c1 c2 c3 x0 be bc hat2 hLk1 HB n1 n3 n4 hXs hv hva
            (try clear hZ)
            obtain ⟨fb2, hfb⟩ : ∃ b, fitB (s.q + r.q) = b := ⟨_, rfl⟩
            cases fb2 with
            | true =>
              have hA := hide (radd_p hX3.out.ok hrok wy hX3.out.sa ha2.out hfb)
              unfold rv at hA
              replace hfb := hide hfb
              clear ha2 hrok
              go_wp2_with (go_at_call 69; (with_reducible refine hA.out.mono ?_); rintro e wz ⟨u, rfl, uq, ut, uok, uat, hb⟩; have hX4 := hide (hX3.out.next hb); clear sb0 sb1 sb2 tb0 tb1 tb2; have sb0 := hX4.out.sb.cell (j := 0) rfl; have sb1 := hX4.out.sb.cell (j := 1) rfl; have sb2 := hX4.out.sb.cell (j := 2) rfl; have f0 := hX4.out.sb.free 0; have f1 := hX4.out.sb.free 1; have f2 := hX4.out.sb.free 2; replace uq := hide uq; replace uok := hide uok; replace uat := hide uat; clear hb hX3 ut)
              go_roundw
              case rel =>
                refine ⟨j + 1, u, hlt2, by go_num, ?_, hX4.out.put u uok.out uat.out⟩
                rw [hval.out, valF_step hft.out (by rw [← hrq.out]; exact hfb.out), uq.out, hrq.out]
              case measure => simp only [intOf]; omega
            | false =>
              have hA := hide (radd_n hX3.out.ok hrok wy hX3.out.sa ha2.out hfb)
              unfold rv at hA
              have hvn : valF c.q (valL o (l.map Pt.qt)) = none := by
                rw [hval.out]
                exact valF_no2 hft.out (by rw [← hrq.out]; exact hfb)
              replace hvn := hide hvn
              clear ha2 hrok hfb hval
              go_upto_region 16 with (go_at_call 69; (with_reducible refine hA.out.mono ?_); rintro e wz ⟨rfl, hb⟩; have hX4 := hide (hX3.out.next hb); clear sb0 sb1 sb2 tb0 tb1 tb2; have sb0 := hX4.out.sb.cell (j := 0) rfl; have sb1 := hX4.out.sb.cell (j := 1) rfl; have sb2 := hX4.out.sb.cell (j := 2) rfl; have f0 := hX4.out.sb.free 0; have f1 := hX4.out.sb.free 1; have f2 := hX4.out.sb.free 2; clear hb hX3)
              have hO := off3 gs wz (.bool false) (.slice none 0 0) (.slice none 0 0)
              have hR := hX4.out.r.off hO (by simp; omega)
              have hbw := hX4.out.b.trans (hO.below hX4.out.b.size (fun b hb => by simp at hb; omega))
              clear hO sb0 sb1 sb2 f0 f1 f2 hX4
              generalize (((wz.setCell ⟨gs, 0, none⟩ (.bool false)).setCell ⟨gs, 1, none⟩ (.slice none 0 0)).setCell ⟨gs, 2, none⟩ (.slice none 0 0)) = wq at *
              have r0 := hR.cell (j := 0) rfl
              have r1 := hR.cell (j := 1) rfl
              have r2 := hR.cell (j := 2) rfl
              have s0 := hR.free 0
              have s1 := hR.free 1
              have s2 := hR.free 2
              replace hbw := hide hbw
              clear hR
              go_wp2_with fail
              refine bodyPost_ret (v := .tuple #[.agg #[.bool false, .slice none 0 0, .slice none 0 0], .int .i64 4]) (by simp [results, Tryz.results22, go_sem, r0, r1, r2]) rfl (.inl ⟨hall2.out, ?_⟩)
              rw [hvn.out]
              exact rno_done 4 hbw.out (by omega) _ _ _
          · have HB : Hid (Bk wa.heap.size #[.bool r.s, .slice r.A r.xs.length r.a, .slice r.B r.ys.length r.b] 25 (((wd.setCell ⟨wa.heap.size, 0, none⟩ (.bool r.s)).setCell ⟨wa.heap.size, 1, none⟩ (.slice r.A r.xs.length r.a)).setCell ⟨wa.heap.size, 2, none⟩ (.slice r.B r.ys.length r.b))) := hide (((hZ3.out.set (.bool r.s) rfl).set (.slice r.A r.xs.length r.a) rfl).set (.slice r.B r.ys.length r.b) rfl)
            have ha2 : Hid (r.At (((wd.setCell ⟨wa.heap.size, 0, none⟩ (.bool r.s)).setCell ⟨wa.heap.size, 1, none⟩ (.slice r.A r.xs.length r.a)).setCell ⟨wa.heap.size, 2, none⟩ (.slice r.B r.ys.length r.b))) := hide (at_offR hZ3.out har (off3 _ _ _ _ _))
            have hbb : Hid (Below wr.heap.size wr (((wd.setCell ⟨wa.heap.size, 0, none⟩ (.bool r.s)).setCell ⟨wa.heap.size, 1, none⟩ (.slice r.A r.xs.length r.a)).setCell ⟨wa.heap.size, 2, none⟩ (.slice r.B r.ys.length r.b))) := hide (be.trans ((off3 _ _ _ _ _).below be.size (fun b hb => by simp at hb; omega)))
            clear hZ3 v0 v1 v2 u0 u1 u2
            generalize (((wd.setCell ⟨wa.heap.size, 0, none⟩ (.bool r.s)).setCell ⟨wa.heap.size, 1, none⟩ (.slice r.A r.xs.length r.a)).setCell ⟨wa.heap.size, 2, none⟩ (.slice r.B r.ys.length r.b)) = wy at *
            have hX3 := hide (hXs.out.next hbb.out)
            have hrq : r.q = p.q * oq o p.t := by rw [hq, hvq.out]
            replace hrq := hide hrq
            have sb0 := hX3.out.sb.cell (j := 0) rfl
            have sb1 := hX3.out.sb.cell (j := 1) rfl
            have sb2 := hX3.out.sb.cell (j := 2) rfl
            have tb0 := HB.out.cell (j := 0) rfl
            have tb1 := HB.out.cell (j := 1) rfl
            have tb2 := HB.out.cell (j := 2) rfl
            have e0 : binOp .eql 3 (.int .i64 0) (.int .i64 0) = pure (.bool true) := rfl
            clear SF hbb hM har hq ht hvq hvok c0 c1 c2 c3 x0 be bc hat2 hLk1 HB n1 n3 n4 hXs hv hva
            (try clear hZ)
            obtain ⟨fb2, hfb⟩ : ∃ b, fitB (s.q + r.q) = b := ⟨_, rfl⟩
            cases fb2 with
            | true =>
              have hA := hide (radd_p hX3.out.ok hrok wy hX3.out.sa ha2.out hfb)
              unfold rv at hA
              replace hfb := hide hfb
              clear ha2 hrok
              go_wp2_with (go_at_call 69; (with_reducible refine hA.out.mono ?_); rintro e wz ⟨u, rfl, uq, ut, uok, uat, hb⟩; have hX4 := hide (hX3.out.next hb); clear sb0 sb1 sb2 tb0 tb1 tb2; have sb0 := hX4.out.sb.cell (j := 0) rfl; have sb1 := hX4.out.sb.cell (j := 1) rfl; have sb2 := hX4.out.sb.cell (j := 2) rfl; have f0 := hX4.out.sb.free 0; have f1 := hX4.out.sb.free 1; have f2 := hX4.out.sb.free 2; replace uq := hide uq; replace uok := hide uok; replace uat := hide uat; clear hb hX3 ut)
              go_roundw
              case rel =>
                refine ⟨j + 1, u, hlt2, by go_num, ?_, hX4.out.put u uok.out uat.out⟩
                rw [hval.out, valF_step hft.out (by rw [← hrq.out]; exact hfb.out), uq.out, hrq.out]
              case measure => simp only [intOf]; omega
            | false =>
              have hA := hide (radd_n hX3.out.ok hrok wy hX3.out.sa ha2.out hfb)
              unfold rv at hA
              have hvn : valF c.q (valL o (l.map Pt.qt)) = none := by
                rw [hval.out]
                exact valF_no2 hft.out (by rw [← hrq.out]; exact hfb)
              replace hvn := hide hvn
              clear ha2 hrok hfb hval
              go_upto_region 16 with (go_at_call 69; (with_reducible refine hA.out.mono ?_); rintro e wz ⟨rfl, hb⟩; have hX4 := hide (hX3.out.next hb); clear sb0 sb1 sb2 tb0 tb1 tb2; have sb0 := hX4.out.sb.cell (j := 0) rfl; have sb1 := hX4.out.sb.cell (j := 1) rfl; have sb2 := hX4.out.sb.cell (j := 2) rfl; have f0 := hX4.out.sb.free 0; have f1 := hX4.out.sb.free 1; have f2 := hX4.out.sb.free 2; clear hb hX3)
              have hO := off3 gs wz (.bool false) (.slice none 0 0) (.slice none 0 0)
              have hR := hX4.out.r.off hO (by simp; omega)
              have hbw := hX4.out.b.trans (hO.below hX4.out.b.size (fun b hb => by simp at hb; omega))
              clear hO sb0 sb1 sb2 f0 f1 f2 hX4
              generalize (((wz.setCell ⟨gs, 0, none⟩ (.bool false)).setCell ⟨gs, 1, none⟩ (.slice none 0 0)).setCell ⟨gs, 2, none⟩ (.slice none 0 0)) = wq at *
              have r0 := hR.cell (j := 0) rfl
              have r1 := hR.cell (j := 1) rfl
              have r2 := hR.cell (j := 2) rfl
              have s0 := hR.free 0
              have s1 := hR.free 1
              have s2 := hR.free 2
              replace hbw := hide hbw
              clear hR
              go_wp2_with fail
              refine bodyPost_ret (v := .tuple #[.agg #[.bool false, .slice none 0 0, .slice none 0 0], .int .i64 4]) (by simp [results, Tryz.results22, go_sem, r0, r1, r2]) rfl (.inl ⟨hall2.out, ?_⟩)
              rw [hvn.out]
              exact rno_done 4 hbw.out (by omega) _ _ _
          · have HB : Hid (Bk wr.heap.size #[.bool r.s, .slice r.A r.xs.length r.a, .slice r.B r.ys.length r.b] 25 (((wd.setCell ⟨wr.heap.size, 0, none⟩ (.bool r.s)).setCell ⟨wr.heap.size, 1, none⟩ (.slice r.A r.xs.length r.a)).setCell ⟨wr.heap.size, 2, none⟩ (.slice r.B r.ys.length r.b))) := hide (((hZ3.out.set (.bool r.s) rfl).set (.slice r.A r.xs.length r.a) rfl).set (.slice r.B r.ys.length r.b) rfl)
            have ha2 : Hid (r.At (((wd.setCell ⟨wr.heap.size, 0, none⟩ (.bool r.s)).setCell ⟨wr.heap.size, 1, none⟩ (.slice r.A r.xs.length r.a)).setCell ⟨wr.heap.size, 2, none⟩ (.slice r.B r.ys.length r.b))) := hide (at_offR hZ3.out har (off3 _ _ _ _ _))
            have hbb : Hid (Below wr.heap.size wr (((wd.setCell ⟨wr.heap.size, 0, none⟩ (.bool r.s)).setCell ⟨wr.heap.size, 1, none⟩ (.slice r.A r.xs.length r.a)).setCell ⟨wr.heap.size, 2, none⟩ (.slice r.B r.ys.length r.b))) := hide (be.trans ((off3 _ _ _ _ _).below be.size (fun b hb => by simp at hb; omega)))
            clear hZ3 v0 v1 v2 u0 u1 u2
            generalize (((wd.setCell ⟨wr.heap.size, 0, none⟩ (.bool r.s)).setCell ⟨wr.heap.size, 1, none⟩ (.slice r.A r.xs.length r.a)).setCell ⟨wr.heap.size, 2, none⟩ (.slice r.B r.ys.length r.b)) = wy at *
            have hX3 := hide (hXs.out.next hbb.out)
            have hrq : r.q = p.q * oq o p.t := by rw [hq, hvq.out]
            replace hrq := hide hrq
            have sb0 := hX3.out.sb.cell (j := 0) rfl
            have sb1 := hX3.out.sb.cell (j := 1) rfl
            have sb2 := hX3.out.sb.cell (j := 2) rfl
            have tb0 := HB.out.cell (j := 0) rfl
            have tb1 := HB.out.cell (j := 1) rfl
            have tb2 := HB.out.cell (j := 2) rfl
            have e0 : binOp .eql 3 (.int .i64 0) (.int .i64 0) = pure (.bool true) := rfl
            clear SF hbb hM har hq ht hvq hvok c0 c1 c2 c3 x0 be bc hat2 hLk1 HB n1 n3 n4 hXs hv hva
            (try clear hZ)
            obtain ⟨fb2, hfb⟩ : ∃ b, fitB (s.q + r.q) = b := ⟨_, rfl⟩
            cases fb2 with
            | true =>
              have hA := hide (radd_p hX3.out.ok hrok wy hX3.out.sa ha2.out hfb)
              unfold rv at hA
              replace hfb := hide hfb
              clear ha2 hrok
              go_wp2_with (go_at_call 69; (with_reducible refine hA.out.mono ?_); rintro e wz ⟨u, rfl, uq, ut, uok, uat, hb⟩; have hX4 := hide (hX3.out.next hb); clear sb0 sb1 sb2 tb0 tb1 tb2; have sb0 := hX4.out.sb.cell (j := 0) rfl; have sb1 := hX4.out.sb.cell (j := 1) rfl; have sb2 := hX4.out.sb.cell (j := 2) rfl; have f0 := hX4.out.sb.free 0; have f1 := hX4.out.sb.free 1; have f2 := hX4.out.sb.free 2; replace uq := hide uq; replace uok := hide uok; replace uat := hide uat; clear hb hX3 ut)
              go_roundw
              case rel =>
                refine ⟨j + 1, u, hlt2, by go_num, ?_, hX4.out.put u uok.out uat.out⟩
                rw [hval.out, valF_step hft.out (by rw [← hrq.out]; exact hfb.out), uq.out, hrq.out]
              case measure => simp only [intOf]; omega
            | false =>
              have hA := hide (radd_n hX3.out.ok hrok wy hX3.out.sa ha2.out hfb)
              unfold rv at hA
              have hvn : valF c.q (valL o (l.map Pt.qt)) = none := by
                rw [hval.out]
                exact valF_no2 hft.out (by rw [← hrq.out]; exact hfb)
              replace hvn := hide hvn
              clear ha2 hrok hfb hval
              go_upto_region 16 with (go_at_call 69; (with_reducible refine hA.out.mono ?_); rintro e wz ⟨rfl, hb⟩; have hX4 := hide (hX3.out.next hb); clear sb0 sb1 sb2 tb0 tb1 tb2; have sb0 := hX4.out.sb.cell (j := 0) rfl; have sb1 := hX4.out.sb.cell (j := 1) rfl; have sb2 := hX4.out.sb.cell (j := 2) rfl; have f0 := hX4.out.sb.free 0; have f1 := hX4.out.sb.free 1; have f2 := hX4.out.sb.free 2; clear hb hX3)
              have hO := off3 gs wz (.bool false) (.slice none 0 0) (.slice none 0 0)
              have hR := hX4.out.r.off hO (by simp; omega)
              have hbw := hX4.out.b.trans (hO.below hX4.out.b.size (fun b hb => by simp at hb; omega))
              clear hO sb0 sb1 sb2 f0 f1 f2 hX4
              generalize (((wz.setCell ⟨gs, 0, none⟩ (.bool false)).setCell ⟨gs, 1, none⟩ (.slice none 0 0)).setCell ⟨gs, 2, none⟩ (.slice none 0 0)) = wq at *
              have r0 := hR.cell (j := 0) rfl
              have r1 := hR.cell (j := 1) rfl
              have r2 := hR.cell (j := 2) rfl
              have s0 := hR.free 0
              have s1 := hR.free 1
              have s2 := hR.free 2
              replace hbw := hide hbw
              clear hR
              go_wp2_with fail
              refine bodyPost_ret (v := .tuple #[.agg #[.bool false, .slice none 0 0, .slice none 0 0], .int .i64 4]) (by simp [results, Tryz.results22, go_sem, r0, r1, r2]) rfl (.inl ⟨hall2.out, ?_⟩)
              rw [hvn.out]
              exact rno_done 4 hbw.out (by omega) _ _ _
        · have hin : j = n := by omega
          have hvalE : valF c.q (valL o (l.map Pt.qt)) = some s.q := by
            rw [hval, hin, hnn.out, List.drop_length]
            rfl
          have hlt' : ¬ (j : Int) < (n : Int) := by omega
          obtain ⟨x0, x1, x2, x3⟩ := hX2.x
          have sb0 := hX2.sb.cell (j := 0) rfl
          have sb1 := hX2.sb.cell (j := 1) rfl
          have sb2 := hX2.sb.cell (j := 2) rfl
          have r0 := hX2.r.cell (j := 0) rfl
          have r1 := hX2.r.cell (j := 1) rfl
          have r2 := hX2.r.cell (j := 2) rfl
          have s0 := hX2.r.free 0
          have s1 := hX2.r.free 1
          have s2 := hX2.r.free 2
          have hD := hide hX2.done
          replace hvalE := hide hvalE
          clear hX2 hX hP hok hfit hLk hval
          go_wp2_with fail
          refine bodyPost_ret (v := .tuple #[.agg #[.bool s.s, .slice s.A s.xs.length s.a, .slice s.B s.ys.length s.b], .int .i64 0]) (by simp [results, Tryz.results22, go_sem, r0, r1, r2]) rfl (.inl ⟨hall2.out, ?_⟩)
          rw [hvalE.out]
          exact hD.out
end Nt

end Go.Proofs.YtgimmmmpollkhaaGreat
