
/-
  Atoms: what is a sum's kind, how a number stands to 0, its size; the form of a sum.
  Atoms: the one sum of all those that say the same (atom.formed).
  Atoms: made of a sum (atom.Make).
  Atoms: may one be, are two the same; atoms that are no sums.
  Atoms: what speaks of nothing; where one holds.
  Atoms: the opposite of one (atom.Not).
  Atoms: the opposite of one (atom.Not).
  Atoms: the form of an opposite.
  Atoms: a sum and its multiples have one form.
  The reference's: are two sums the same (theodoliteref6.SamePoly).
  Atoms: what is made of a sum, of its multiples, of its opposites (no memory).
  An atom in a box, and what the functions of package atom tell of it.
-/
import Derived.Test.YtgimmmmpollkhaaGreatNYt
namespace Go.Proofs.YtgimmmmpollkhaaGreat

open Go.ChangeShapes Go.RowKit

namespace Nt
set_option maxRecDepth 100000
set_option linter.unusedSimpArgs false
set_option linter.unusedVariables false

def sumK (k : Int) : Bool := decide (k = 1 ∨ k = 2 ∨ k = 3)
theorem ofsum_k (k : Int) (w : World) : Calls Tryz.prog 88 #[.int .i64 k] w fun e w' => e = .returned (.bool (sumK k)) ∧ w' = w := by
  unfold sumK
  by_cases h1 : k = 1
  · subst h1
    go_enter Tryz.func88, Tryz.ntmps88
    go_wp2
    go_ret
    exact ⟨rfl, rfl⟩
  by_cases h2 : k = 2
  · subst h2
    go_enter Tryz.func88, Tryz.ntmps88
    go_wp2
    go_ret
    exact ⟨rfl, rfl⟩
  by_cases h3 : k = 3
  · subst h3
    go_enter Tryz.func88, Tryz.ntmps88
    go_wp2
    go_ret
    exact ⟨rfl, rfl⟩
  have e1 := eql_b 3 k 1 false (decide_eq_false h1)
  have e2 := eql_b 3 k 2 false (decide_eq_false h2)
  have e3 := eql_b 3 k 3 false (decide_eq_false h3)
  have hd : decide (k = 1 ∨ k = 2 ∨ k = 3) = false := decide_eq_false (by omega)
  rw [hd]
  clear h1 h2 h3 hd
  go_enter Tryz.func88, Tryz.ntmps88
  go_wp2
  go_ret
  exact ⟨rfl, rfl⟩
def oppK (k : Int) : Int := if k = 1 then 2 else if k = 2 then 1 else 0
def oppB (k : Int) : Bool := decide (k = 1 ∨ k = 2)
theorem opposite_k (k : Int) (w : World) : Calls Tryz.prog 86 #[.int .i64 k] w fun e w' => e = .returned (.tuple #[.int .i64 (oppK k), .bool (oppB k)]) ∧ w' = w := by
  unfold oppK oppB
  by_cases h1 : k = 1
  · subst h1
    go_enter Tryz.func86, Tryz.ntmps86
    go_wp2
    go_ret2
    exact ⟨rfl, rfl⟩
  by_cases h2 : k = 2
  · subst h2
    go_enter Tryz.func86, Tryz.ntmps86
    go_wp2
    go_ret2
    exact ⟨rfl, rfl⟩
  have e1 := eql_b 3 k 1 false (decide_eq_false h1)
  have e2 := eql_b 3 k 2 false (decide_eq_false h2)
  have hd : decide (k = 1 ∨ k = 2) = false := decide_eq_false (by omega)
  rw [hd, if_neg h1, if_neg h2]
  clear h1 h2 hd
  go_enter Tryz.func86, Tryz.ntmps86
  go_wp2
  go_ret2
  exact ⟨rfl, rfl⟩
def stB (k : Int) (q : Rat) : Bool := if k = 1 then decide (cmpZ q.num 0 ≤ 0) else if k = 2 then decide (cmpZ q.num 0 < 0) else decide (cmpZ q.num 0 = 0)
theorem leq_b (t : TypeId) (x y : Int) (b : Bool) (h : decide (x ≤ y) = b) : binOp .leq t (.int .i64 x) (.int .i64 y) = pure (.bool b) := by rw [← h]; rfl
set_option maxHeartbeats 4000000 in
theorem stands_p (k : Int) {p : Pt} (hp : p.Ok) (w : World) (aP : p.At w) : Calls Tryz.prog 89 #[.int .i64 k, rv p] w fun e w' => e = .returned (.bool (stB k p.q)) ∧ Below w.heap.size w w' := by
  have hb : Below w.heap.size w (w.alloc (.cells #[.bool p.s, .slice p.A p.xs.length p.a, .slice p.B p.ys.length p.b] 25)) := bl_al (.refl _ _) _
  have hS := hide (sign_p hp _ (aP.next hb))
  have hX := hide (Q3.new (.bool p.s) (.slice p.A p.xs.length p.a) (.slice p.B p.ys.length p.b) w)
  unfold stB
  obtain ⟨z, hz⟩ : ∃ z, cmpZ p.q.num 0 = z := ⟨_, rfl⟩
  rw [hz] at hS ⊢
  unfold rv at *
  clear hz aP hp
  replace hb := hide hb
  generalize p.xs.length = i1 at *
  generalize p.ys.length = i2 at *
  obtain ⟨x1, x2, x3, x4, x5, x6⟩ := hX.out
  by_cases h1 : k = 1
  · subst h1
    rw [if_pos rfl]
    obtain ⟨b, hbb⟩ : ∃ b, decide (z ≤ 0) = b := ⟨_, rfl⟩
    have e1 := leq_b 3 z 0 b hbb
    rw [hbb]
    clear hbb
    go_enter Tryz.func89, Tryz.ntmps89
    go_wp2_with (first | (go_at_call 71; (with_reducible refine hS.out.mono ?_); rintro e wa ⟨rfl, hb3⟩; replace hb3 := hide hb3) | fail)
    go_ret
    exact ⟨rfl, bl_trans hb.out hb3.out⟩
  by_cases h2 : k = 2
  · subst h2
    rw [if_neg (by decide), if_pos rfl]
    obtain ⟨b, hbb⟩ : ∃ b, decide (z < 0) = b := ⟨_, rfl⟩
    have e1 := lss_b 3 z 0 b hbb
    rw [hbb]
    clear hbb
    go_enter Tryz.func89, Tryz.ntmps89
    go_wp2_with (first | (go_at_call 71; (with_reducible refine hS.out.mono ?_); rintro e wa ⟨rfl, hb3⟩; replace hb3 := hide hb3) | fail)
    go_ret
    exact ⟨rfl, bl_trans hb.out hb3.out⟩
  rw [if_neg h1, if_neg h2]
  have e1 := eql_b 3 k 1 false (decide_eq_false h1)
  have e2 := eql_b 3 k 2 false (decide_eq_false h2)
  obtain ⟨b, hbb⟩ : ∃ b, decide (z = 0) = b := ⟨_, rfl⟩
  have e3 := eql_b 3 z 0 b hbb
  rw [hbb]
  clear hbb h1 h2
  go_enter Tryz.func89, Tryz.ntmps89
  go_wp2_with (first | (go_at_call 71; (with_reducible refine hS.out.mono ?_); rintro e wa ⟨rfl, hb3⟩; replace hb3 := hide hb3) | fail)
  go_ret
  exact ⟨rfl, bl_trans hb.out hb3.out⟩
def absq (q : Rat) : Rat := if qs q = true then -q else q
theorem neg_p {p : Pt} (hp : p.Ok) (w : World) (aP : p.At w) : Calls Tryz.prog 144 #[rv p] w (NewR (-p.q) w) := by
  rw [hp.rv]
  exact (neg_q p.q _ _ _ _ w (hp.sl aP).1 (hp.sl aP).2 hp.f).mono fun e w' h => RQ.newR h (fitq_neg hp.f)
theorem fit_abs {q : Rat} (f : fitq q) : fitq (absq q) := by
  unfold absq
  split
  · exact fitq_neg f
  · exact f
set_option maxHeartbeats 4000000 in
theorem size_p {p : Pt} (hp : p.Ok) (w : World) (aP : p.At w) : Calls Tryz.prog 123 #[rv p] w (NewR (absq p.q) w) := by
  have hb0 : Below w.heap.size w ((w.alloc (.cells #[.bool p.s, .slice p.A p.xs.length p.a, .slice p.B p.ys.length p.b] 25)).alloc (.cells zR 25)) := bl_al (bl_al (.refl _ _) _) _
  have hN := hide (neg_p hp _ (aP.next hb0))
  have hX := hide ((Q3.new (.bool p.s) (.slice p.A p.xs.length p.a) (.slice p.B p.ys.length p.b) w).al (.cells zR 25))
  have hZ := hide (Bk.new1 zR 25 w (.cells #[.bool p.s, .slice p.A p.xs.length p.a, .slice p.B p.ys.length p.b] 25))
  have hs := hp.s
  have hfinP : NewR p.q w (.returned (.agg #[.bool p.s, .slice p.A p.xs.length p.a, .slice p.B p.ys.length p.b])) ((w.alloc (.cells #[.bool p.s, .slice p.A p.xs.length p.a, .slice p.B p.ys.length p.b] 25)).alloc (.cells #[.bool p.s, .slice p.A p.xs.length p.a, .slice p.B p.ys.length p.b] 25)) := ⟨p, rfl, rfl, hp, aP.next (bl_al (bl_al (.refl _ _) _) _), bl_al (bl_al (.refl _ _) _) _⟩
  have hpk := hide hp
  have hfin := hide (fun W (q : Rat) (r : Pt) (b : Below w.heap.size w W) (hR : Bk (w.heap.size + 1) zR 25 W) (h1 : r.q = q) (h2 : r.Ok) (h3 : r.At W) => newR_done b hR (by omega) h1 h2 h3)
  unfold rv at *
  unfold zR at hb0 hN hX hZ
  replace hb0 := hide hb0
  obtain ⟨s, hss⟩ : ∃ s, qs p.q = s := ⟨_, rfl⟩
  unfold absq
  rw [hss] at hs ⊢
  clear aP hp hss
  generalize hps : p.s = sp at *
  subst hs
  replace hfinP := hide hfinP
  have z0 := hZ.out.cell (j := 0) rfl
  have z1 := hZ.out.cell (j := 1) rfl
  have z2 := hZ.out.cell (j := 2) rfl
  have y0 := hZ.out.free 0
  have y1 := hZ.out.free 1
  have y2 := hZ.out.free 2
  obtain ⟨x1, x2, x3, x4, x5, x6⟩ := hX.out
  cases sp with
  | true =>
    rw [if_pos rfl]
    go_enter Tryz.func123, Tryz.ntmps123
    go_wp2_with (first | (go_at_call 144; (with_reducible refine hN.out.mono ?_); rintro e wa ⟨r, rfl, hq, hok, hat, hb3⟩; have hZ2 := hZ.out.next hb3; have r0 := hZ2.cell (j := 0) rfl; have r1 := hZ2.cell (j := 1) rfl; have r2 := hZ2.cell (j := 2) rfl; have s0 := hZ2.free 0; have s1 := hZ2.free 1; have s2 := hZ2.free 2; replace hZ2 := hide hZ2; have hbw := hide (bl_trans hb0.out hb3); replace hq := hide hq; replace hok := hide hok; replace hat := hide hat; clear hb3) | fail)
    exact bodyPost_ret (v := .agg #[.bool r.s, .slice r.A r.xs.length r.a, .slice r.B r.ys.length r.b]) (by simp [results, Tryz.results123, go_sem, r0, r1, r2]) rfl (hfin.out _ _ _ hbw.out hZ2.out hq.out hok.out hat.out)
  | false =>
    rw [if_neg (by decide)]
    go_enter Tryz.func123, Tryz.ntmps123
    go_wp2_with fail
    exact bodyPost_ret (v := .agg #[.bool false, .slice p.A p.xs.length p.a, .slice p.B p.ys.length p.b]) (by simp [results, Tryz.results123, go_sem, z0, z1, z2]) rfl hfinP.out
def formB (k : Int) : List (Rat × Int) → Bool
  | [] => true
  | x :: _ => decide ((if k = 3 then x.1 else absq x.1) = 1)
theorem cmp_p {p r : Pt} (hp : p.Ok) (hr : r.Ok) (w : World) (aP : p.At w) (aR : r.At w) : Calls Tryz.prog 124 #[rv p, rv r] w fun e w' => e = .returned (.int .i64 (cmpQ p.q r.q)) ∧ Below w.heap.size w w' := by
  rw [hp.rv, hr.rv]
  exact cmp_q p.q r.q _ _ _ _ _ _ _ _ w (hp.sl aP).1 (hp.sl aP).2 (hr.sl aR).1 (hr.sl aR).2 hp.f hr.f _ rfl
theorem c3_put {g : Nat} {W : World} {t : TypeId} {a0 b0 c0 : Value} (h : Bk g #[a0, b0, c0] t W) (a b c : Value) : C3 g a b c (((W.setCell ⟨g, 0, none⟩ a).setCell ⟨g, 1, none⟩ b).setCell ⟨g, 2, none⟩ c) := by
  have h1 := h.set (j := 0) (cur' := #[a, b0, c0]) a rfl
  have h2 := h1.set (j := 1) (cur' := #[a, b, c0]) b rfl
  exact C3.of (h2.set (j := 2) (cur' := #[a, b, c]) c rfl)
theorem cmpQ_eq (x y : Rat) : decide (x = y) = decide (cmpQ x y = 0) := by
  rw [decide_eq_decide]
  unfold cmpQ
  constructor
  · rintro rfl; simp [Rat.lt_irrefl]
  · intro h
    by_cases h1 : x < y
    · rw [if_pos h1] at h; omega
    · by_cases h2 : y < x
      · rw [if_neg h1, if_pos h2] at h; omega
      · exact Rat.le_antisymm (Rat.not_lt.1 h2) (Rat.not_lt.1 h1)
set_option maxHeartbeats 4000000 in
theorem hasform_p (k : Int) (A : Option Addr) (l : List Pt) (kc : Nat) (c : Pt) (w : World) (hl : Pl w A l) (ok : ∀ p ∈ l, p.Ok) (hn : l.length ≤ 1000000) :
    Calls Tryz.prog 91 #[.int .i64 k, polyV A l.length kc c] w fun e w' => e = .returned (.bool (formB k (l.map Pt.qt))) ∧ Below w.heap.size w w' := by
  have hb : Below w.heap.size w (w.alloc (.cells #[.slice A l.length kc, .bool c.s, .slice c.A c.xs.length c.a, .slice c.B c.ys.length c.b] 27)) := bl_al (.refl _ _) _
  have hX := hide (C4.new (.slice A l.length kc) (.bool c.s) (.slice c.A c.xs.length c.a) (.slice c.B c.ys.length c.b) 27 w)
  unfold polyV
  rcases l with _ | ⟨p, l⟩
  · generalize c.xs.length = i1 at *
    generalize c.ys.length = i2 at *
    replace hb := hide hb
    obtain ⟨x0, x1, x2, x3⟩ := hX.out
    go_enter Tryz.func91, Tryz.ntmps91
    go_wp2_with fail
    go_ret
    exact ⟨rfl, hb.out⟩
  · obtain ⟨g, o, rfl, ⟨c0, c1, c2, c3⟩, hat⟩ := (hl.next hb).get (i := 0) (by simp)
    simp only [Nat.zero_mul, Nat.add_zero, List.getElem_cons_zero] at c0 c1 c2 c3 hat
    have hpk := ok p (by simp)
    have hx1 := hide ((show C4 w.heap.size (.slice (some ⟨g, o, none⟩) (p :: l).length kc) (.bool c.s) (.slice c.A c.xs.length c.a) (.slice c.B c.ys.length c.b) _ from hX.out))
    have hO := hide (fun W => of_1 W)
    have hq : formB k ((p :: l).map Pt.qt) = decide ((if k = 3 then p.q else absq p.q) = 1) := rfl
    rw [hq]
    clear hq hX hl ok
    generalize hm : (p :: l).length = m at *
    have h0 : (0 : Int) < (m : Int) := by rw [← hm]; simp
    have h0' : ((m : Int) == 0) = false := by simp; omega
    clear hm hn
    generalize c.xs.length = i1 at *
    generalize c.ys.length = i2 at *
    obtain ⟨x0, x1, x2, x3⟩ := hx1.out
    have hB := hide (Bk.new1 #[.bool p.s, .slice p.A p.xs.length p.a, .slice p.B p.ys.length p.b] 25 w (.cells #[.slice (some ⟨g, o, none⟩) m kc, .bool c.s, .slice c.A i1 c.a, .slice c.B i2 c.b] 27))
    have haB := hide (hat.next (bl_al (.refl _ _) (.cells #[.bool p.s, .slice p.A p.xs.length p.a, .slice p.B p.ys.length p.b] 25)))
    have hbB : Below w.heap.size w ((w.alloc (.cells #[.slice (some ⟨g, o, none⟩) m kc, .bool c.s, .slice c.A i1 c.a, .slice c.B i2 c.b] 27)).alloc (.cells #[.bool p.s, .slice p.A p.xs.length p.a, .slice p.B p.ys.length p.b] 25)) := bl_al hb (.cells #[.bool p.s, .slice p.A p.xs.length p.a, .slice p.B p.ys.length p.b] 25)
    have hbB' := hide (bl_al (.refl _ _) (.cells #[.bool p.s, .slice p.A p.xs.length p.a, .slice p.B p.ys.length p.b] 25) : Below (w.alloc (.cells #[.slice (some ⟨g, o, none⟩) m kc, .bool c.s, .slice c.A i1 c.a, .slice c.B i2 c.b] 27)).heap.size (w.alloc (.cells #[.slice (some ⟨g, o, none⟩) m kc, .bool c.s, .slice c.A i1 c.a, .slice c.B i2 c.b] 27)) ((w.alloc (.cells #[.slice (some ⟨g, o, none⟩) m kc, .bool c.s, .slice c.A i1 c.a, .slice c.B i2 c.b] 27)).alloc (.cells #[.bool p.s, .slice p.A p.xs.length p.a, .slice p.B p.ys.length p.b] 25)))
    have hsz := hide (size_p hpk _ haB.out)
    unfold rv at hsz
    obtain ⟨y0, y1, y2⟩ := C3.of hB.out
    have u0 := hB.out.free 0
    have u1 := hB.out.free 1
    have u2 := hB.out.free 2
    by_cases h3 : k = 3
    · subst h3
      rw [if_pos rfl]
      have hC3 := hide (C3.of hB.out)
      have hbw := hide hbB
      clear hsz hB u0 u1 u2 hb hbB hbB'
      obtain ⟨z, hz⟩ : ∃ z, cmpQ p.q 1 = z := ⟨_, rfl⟩
      obtain ⟨bb, hbb⟩ : ∃ b, decide (z = 0) = b := ⟨_, rfl⟩
      have e1 := eql_b 3 z 0 bb hbb
      rw [cmpQ_eq, hz, hbb]
      replace hz := hide hz
      clear hbb
      go_enter Tryz.func91, Tryz.ntmps91
      go_wp2_with fail
      clear y0 y1 y2 x0 x1 x2 x3 c0 c1 c2 c3
      generalize (w.alloc (.cells #[.slice (some ⟨g, o, none⟩) m kc, .bool c.s, .slice c.A i1 c.a, .slice c.B i2 c.b] 27)).alloc (.cells #[.bool p.s, .slice p.A p.xs.length p.a, .slice p.B p.ys.length p.b] 25) = w2 at *
      have hS := hide (fun W (b : Below w2.heap.size w2 W) => (show W.cell? ⟨w.heap.size + 1, 0, none⟩ = some (.bool p.s) ∧ W.cell? ⟨w.heap.size + 1, 1, none⟩ = some (.slice p.A p.xs.length p.a) ∧ W.cell? ⟨w.heap.size + 1, 2, none⟩ = some (.slice p.B p.ys.length p.b) from hC3.out.next b))
      have bc := ka0 w2
      go_region_held3 (fun W => W.cell? ⟨w.heap.size + 1, 0, none⟩ = some (.bool p.s) ∧ W.cell? ⟨w.heap.size + 1, 1, none⟩ = some (.slice p.A p.xs.length p.a) ∧ W.cell? ⟨w.heap.size + 1, 2, none⟩ = some (.slice p.B p.ys.length p.b))
        (first | (with_reducible exact hS.out _ bc) | fail)
        (first
          | (go_at_call 62; (with_reducible refine (hO.out _).mono ?_); rintro e wz ⟨r1, rfl, q1, k1, a1, hb⟩; replace bc := bl_trans bc hb; have hCm := cmp_p hpk k1 wz (haB.out.next bc) a1; unfold rv at hCm; rw [q1, hz.out] at hCm; replace hCm := hide hCm; clear hb q1 k1 a1)
          | (go_at_call 124; (with_reducible refine hCm.out.mono ?_); rintro e wz ⟨rfl, hb⟩; replace bc := bl_trans bc hb; clear hb)
          | fail)
      go_wp2_with fail
      go_ret
      exact ⟨rfl, bl_trans hbw.out bc⟩
    · rw [if_neg h3]
      have e3 := eql_b 3 k 3 false (decide_eq_false h3)
      have e3' : (k != 3) = true := by simpa using h3
      have hbw0 := hide hbB
      clear hb hbB hbB' h3
      obtain ⟨z, hz⟩ : ∃ z, cmpQ (absq p.q) 1 = z := ⟨_, rfl⟩
      obtain ⟨bb, hbb⟩ : ∃ b, decide (z = 0) = b := ⟨_, rfl⟩
      have e1 := eql_b 3 z 0 bb hbb
      rw [cmpQ_eq, hz, hbb]
      replace hz := hide hz
      clear hbb
      go_enter Tryz.func91, Tryz.ntmps91
      go_wp2_with (first | (go_at_call 123; go_must ((with_reducible refine hsz.out.mono ?_); rintro e wa ⟨r, rfl, hrq, hrk, hra, hb3⟩; have hB2 := hB.out.next hb3; have hC3 := hide (c3_put hB2 (.bool r.s) (.slice r.A r.xs.length r.a) (.slice r.B r.ys.length r.b)); have hra2 := hide (And.intro (hB2.sl (box_noU p) hra.1 (off3 (w.heap.size + 1) wa (.bool r.s) (.slice r.A r.xs.length r.a) (.slice r.B r.ys.length r.b))) (hB2.sl (box_noU p) hra.2 (off3 (w.heap.size + 1) wa (.bool r.s) (.slice r.A r.xs.length r.a) (.slice r.B r.ys.length r.b)))); have hbw := hide ((bl_trans hbw0.out hb3).trans ((off3 (w.heap.size + 1) wa (.bool r.s) (.slice r.A r.xs.length r.a) (.slice r.B r.ys.length r.b)).below (bl_trans hbw0.out hb3).size (fun b hb => by simp at hb; omega))); clear y0 y1 y2 u0 u1 u2; obtain ⟨y0, y1, y2⟩ := C3.of hB2; have u0 := hB2.free 0; have u1 := hB2.free 1; have u2 := hB2.free 2; replace hB2 := hide hB2; clear hra hb3)) | fail)
      clear y0 y1 y2 x0 x1 x2 x3 c0 c1 c2 c3 u0 u1 u2
      generalize ((wa.setCell ⟨w.heap.size + 1, 0, none⟩ (.bool r.s)).setCell ⟨w.heap.size + 1, 1, none⟩ (.slice r.A r.xs.length r.a)).setCell ⟨w.heap.size + 1, 2, none⟩ (.slice r.B r.ys.length r.b) = w2 at *
      have hS := hide (fun W (b : Below w2.heap.size w2 W) => (show W.cell? ⟨w.heap.size + 1, 0, none⟩ = some (.bool r.s) ∧ W.cell? ⟨w.heap.size + 1, 1, none⟩ = some (.slice r.A r.xs.length r.a) ∧ W.cell? ⟨w.heap.size + 1, 2, none⟩ = some (.slice r.B r.ys.length r.b) from hC3.out.next b))
      have bc := ka0 w2
      go_region_held3 (fun W => W.cell? ⟨w.heap.size + 1, 0, none⟩ = some (.bool r.s) ∧ W.cell? ⟨w.heap.size + 1, 1, none⟩ = some (.slice r.A r.xs.length r.a) ∧ W.cell? ⟨w.heap.size + 1, 2, none⟩ = some (.slice r.B r.ys.length r.b))
        (first | (with_reducible exact hS.out _ bc) | fail)
        (first
          | (go_at_call 62; (with_reducible refine (hO.out _).mono ?_); rintro e wz ⟨r1, rfl, q1, k1, a1, hb⟩; replace bc := bl_trans bc hb; have hCm := cmp_p hrk k1 wz (Pt.At.next (p := r) hra2.out bc) a1; unfold rv at hCm; rw [q1, hrq, hz.out] at hCm; replace hCm := hide hCm; clear hb q1 k1 a1)
          | (go_at_call 124; (with_reducible refine hCm.out.mono ?_); rintro e wz ⟨rfl, hb⟩; replace bc := bl_trans bc hb; clear hb)
          | fail)
      go_wp2_with fail
      go_ret
      exact ⟨rfl, bl_trans hbw.out bc⟩
end Nt

end Go.Proofs.YtgimmmmpollkhaaGreat

namespace Go.Proofs.YtgimmmmpollkhaaGreat

open Go.ChangeShapes Go.RowKit

namespace Nt
set_option maxRecDepth 100000
set_option linter.unusedSimpArgs false
set_option linter.unusedVariables false

def fby (k : Int) (q : Rat) : Rat := if k = 3 then 1 / q else absq (1 / q)
theorem b3_set {g : Nat} {W : World} {t : TypeId} (h : Bk g zR t W) (a b c : Value) : Bk g #[a, b, c] t (((W.setCell ⟨g, 0, none⟩ a).setCell ⟨g, 1, none⟩ b).setCell ⟨g, 2, none⟩ c) := by
  have h1 := h.set (j := 0) (cur' := #[a, .slice none 0 0, .slice none 0 0]) a rfl
  have h2 := h1.set (j := 1) (cur' := #[a, b, .slice none 0 0]) b rfl
  exact h2.set (j := 2) (cur' := #[a, b, c]) c rfl
theorem cmpZ_cases (z : Int) : cmpZ z 0 = -1 ∨ cmpZ z 0 = 0 ∨ cmpZ z 0 = 1 := by
  unfold cmpZ
  split
  · exact .inl rfl
  · split
    · exact .inr (.inr rfl)
    · exact .inr (.inl rfl)
theorem of_sg (q : Rat) (w : World) : Calls Tryz.prog 62 #[.int .i64 (cmpZ q.num 0), .int .i64 1] w (NewR ((cmpZ q.num 0 : Int) : Rat) w) := by
  rcases cmpZ_cases q.num with h | h | h <;> rw [h]
  · exact (of_pos (-1) 1 ((-1 : Int) : Rat) w (by decide) (by decide) (by decide) (by decide) (by decide) (by first | rfl | decide +kernel)).mono fun e w' h => RQ.newR h (fit_lit (by decide +kernel) (by decide +kernel))
  · exact (of_pos 0 1 ((0 : Int) : Rat) w (by decide) (by decide) (by decide) (by decide) (by decide) (by first | rfl | decide +kernel)).mono fun e w' h => RQ.newR h (fit_lit (by decide +kernel) (by decide +kernel))
  · exact (of_pos 1 1 ((1 : Int) : Rat) w (by decide) (by decide) (by decide) (by decide) (by decide) (by first | rfl | decide +kernel)).mono fun e w' h => RQ.newR h (fit_lit (by decide +kernel) (by decide +kernel))

set_option maxHeartbeats 8000000 in
theorem formed_nil (k : Int) (A : Option Addr) (kc : Nat) (c : Pt) (w : World) (hc : c.At w) (fc : c.Ok) :
    Calls Tryz.prog 94 #[.int .i64 k, polyV A 0 kc c] w (PR w [] ((cmpZ c.q.num 0 : Int) : Rat)) := by
  have hst := hide (fun W (b : Below (Dw w c A 0 kc).heap.size (Dw w c A 0 kc) W) => Dw.start w c A 0 kc b)
  have hb0 : Below w.heap.size w (Dw w c A 0 kc) := bl_al (bl_al (.refl _ _) _) _
  have hbz := hide (hst.out _ (Below.refl _ _))
  have hS := hide (fun W (b : Below w.heap.size w W) => sign_p fc W (hc.next b))
  have hO := hide (fun W => of_sg c.q W)
  unfold polyV rv at *
  unfold Dw zP at hb0 hst hbz
  replace hst := hide hst.out
  replace hb0 := hide hb0
  clear hc fc
  generalize cmpZ c.q.num 0 = z at *
  generalize c.xs.length = i1 at *
  generalize c.ys.length = i2 at *
  obtain ⟨⟨x0, x1, x2, x3⟩, _⟩ := hbz.out
  go_enter Tryz.func94, Tryz.ntmps94
  go_wp2_with (first
    | (go_at_call 71; (with_reducible refine (hS.out _ hb0.out).mono ?_); rintro e w1 ⟨rfl, hb⟩; clear x0 x1 x2 x3; replace hb := hide hb)
    | (go_at_call 62; (with_reducible refine (hO.out _).mono ?_); rintro e w2 ⟨r, rfl, hq, hok, hat, hb2⟩; obtain ⟨_, hR, hbw⟩ := hst.out w2 (bl_trans hb.out hb2); have r0 := hR.cell (j := 0) rfl; have r1 := hR.cell (j := 1) rfl; have r2 := hR.cell (j := 2) rfl; have r3 := hR.cell (j := 3) rfl; have s0 := hR.free 0; have s1 := hR.free 1; have s2 := hR.free 2; have s3 := hR.free 3; replace hR := hide hR; replace hbw := hide hbw; replace hq := hide hq; replace hok := hide hok; replace hat := hide hat; clear hb2)
    | fail)
  have hO4 := off4 (w.heap.size + 1) w2 (.slice none 0 0) (.bool r.s) (.slice r.A r.xs.length r.a) (.slice r.B r.ys.length r.b)
  exact bodyPost_ret (v := .tuple #[.agg #[.slice none 0 0, .bool r.s, .slice r.A r.xs.length r.a, .slice r.B r.ys.length r.b], .int .i64 0]) (by simp [results, Tryz.results94, go_sem, r0, r1, r2, r3]) rfl ⟨none, 0, [], r, rfl, rfl, hq.out, .inl rfl, at_off hR.out hat.out hO4, fun p hp => by simp at hp, hok.out, hbw.out.trans (hO4.below hbw.out.size (fun b hb => by simp at hb; omega)), Nat.le_refl _, Nat.zero_le _⟩
theorem fit_1div {q : Rat} (f : fitq q) (h0 : q ≠ 0) : fitq (1 / q) := by
  rw [Rat.div_def, Rat.one_mul]
  exact fit_inv f h0
theorem one_div_ne {q : Rat} (h0 : q ≠ 0) : 1 / q ≠ 0 := by
  intro e
  rw [Rat.div_def, Rat.one_mul] at e
  have h1 := Rat.mul_inv_cancel q h0
  rw [e, Rat.mul_zero] at h1
  exact absurd h1 (by decide)
theorem absq_ne {q : Rat} (h0 : q ≠ 0) : absq q ≠ 0 := by
  unfold absq
  split
  · intro e
    exact h0 (by rw [← Rat.neg_neg q, e]; rfl)
  · exact h0

set_option maxHeartbeats 8000000 in
theorem formed_cons (k : Int) (A : Option Addr) (p : Pt) (l : List Pt) (kc : Nat) (c : Pt) (w : World) (hl : Pl w A (p :: l)) (ok : ∀ r ∈ p :: l, r.Ok) (hc : c.At w) (fc : c.Ok) (hv : pvB (-1) (p :: l) = true) (hn : (p :: l).length ≤ 1000) :
    Calls Tryz.prog 94 #[.int .i64 k, polyV A (p :: l).length kc c] w (ScO w (scB (fby k p.q) (p :: l) c) (scaleL (fby k p.q) (p :: l)) (c.q * fby k p.q)) := by
  have hpk := ok p (by simp)
  have h0 : p.q ≠ 0 := rvB_ne ((pvB_rvB ok (-1)).1 hv) (x := p.qt) (by simp)
  have hO := hide (fun W => of_1 W)
  have hQ := hide (fun (r : Pt) (h1 : r.q = 1) (h2 : r.Ok) W (hr : r.At W) (b : Below w.heap.size w W) => (show Calls Tryz.prog 61 #[rv r, rv p] W (NewQ (1 / p.q) r.t W) from by
    obtain ⟨_, _, _, _, h5⟩ := (hl.next b).get (i := 0) (by simp)
    have := quo_p h2 hpk W hr h5 h0 (by rw [h1]; exact fit_1div hpk.f h0)
    rw [h1] at this
    exact this))
  have hSz := hide (fun (r : Pt) (h1 : r.Ok) W (hr : r.At W) => size_p h1 W hr)
  have hS := hide (fun (r : Pt) (h1 : r.q = fby k p.q) (h2 : r.Ok) W (hr : r.At W) (b : Below w.heap.size w W) => (show Calls Tryz.prog 14 #[polyV A (p :: l).length kc c, rv r] W (ScO W (scB (fby k p.q) (p :: l) c) (scaleL (fby k p.q) (p :: l)) (c.q * fby k p.q)) from by
    have := lscale_ok A (p :: l) kc c r W (hl.next b) ok hv (hc.next b) fc hr h2 hn
    rw [h1] at this
    exact this))
  have hb0 : Below w.heap.size w (Dw w c A (p :: l).length kc) := bl_al (bl_al (.refl _ _) _) _
  have hbz := hide (Dw.start w c A (p :: l).length kc (Below.refl _ _))
  have hfk : fby k p.q = if k = 3 then 1 / p.q else absq (1 / p.q) := rfl
  obtain ⟨g, o, rfl, hcs, hpat⟩ := (hl.next hb0).get (i := 0) (by simp)
  simp only [Nat.zero_mul, Nat.add_zero, List.getElem_cons_zero] at hcs hpat
  have hm0 : 0 < (p :: l).length := by simp
  obtain ⟨c0, c1, c2, c3⟩ := hcs
  unfold polyV rv at *
  unfold Dw zP at hb0 hbz hpat c0 c1 c2 c3
  clear hl ok hc fc hv hpk
  generalize scB (fby k p.q) (p :: l) c = bb at *
  generalize scaleL (fby k p.q) (p :: l) = LL at *
  generalize c.q * fby k p.q = rr at *
  generalize (p :: l).length = m at *
  have hm0' : (0 : Int) < (m : Int) := by omega
  have hm1 : ((m : Int) == 0) = false := by simp; omega
  generalize c.xs.length = i1 at *
  generalize c.ys.length = i2 at *
  generalize hj1 : p.xs.length = j1 at *
  generalize hj2 : p.ys.length = j2 at *
  clear hj1 hj2
  obtain ⟨⟨x0, x1, x2, x3⟩, hR, _⟩ := hbz.out
  go_enter Tryz.func94, Tryz.ntmps94
  go_wp2_with fail
  have hsz2 : ((w.alloc (.cells #[.slice (some ⟨g, o, none⟩) m kc, .bool c.s, .slice c.A i1 c.a, .slice c.B i2 c.b] 27)).alloc (.cells #[.slice none 0 0, .bool false, .slice none 0 0, .slice none 0 0] 27)).heap.size = w.heap.size + 2 := by simp
  replace hsz2 := hide hsz2
  generalize (w.alloc (.cells #[.slice (some ⟨g, o, none⟩) m kc, .bool c.s, .slice c.A i1 c.a, .slice c.B i2 c.b] 27)).alloc (.cells #[.slice none 0 0, .bool false, .slice none 0 0, .slice none 0 0] 27) = w2 at *
  clear hbz
  have hX6 := hide (fun W (b : Below w2.heap.size w2 W) => (show (C4 w.heap.size (.slice (some ⟨g, o, none⟩) m kc) (.bool c.s) (.slice c.A i1 c.a) (.slice c.B i2 c.b) W ∧ Bk (w.heap.size + 1) zP 27 W) ∧ Below w.heap.size w W from ⟨⟨C4.next (w := w2) ⟨x0, x1, x2, x3⟩ b, hR.next b⟩, bl_trans hb0 b⟩))
  have hS6 := hide (fun W (b : Below w2.heap.size w2 W) => (show W.cell? ⟨w.heap.size, 0, none⟩ = some (.slice (some ⟨g, o, none⟩) m kc) ∧ W.cell? ⟨g, o, none⟩ = some (.bool p.s) ∧ W.cell? ⟨g, o + 1, none⟩ = some (.slice p.A j1 p.a) ∧ W.cell? ⟨g, o + 2, none⟩ = some (.slice p.B j2 p.b) from And.intro (cell_next b x0) (And.intro (cell_next b c0) (And.intro (cell_next b c1) (cell_next b c2)))))
  have hQ := hide (fun (r : Pt) (h1 : r.q = 1) (h2 : r.Ok) W (hr : r.At W) (b : Below w2.heap.size w2 W) => hQ.out r h1 h2 W hr (bl_trans hb0 b))
  have bd1 : Below w2.heap.size w2 w2.drew := ka0 w2
  have ka := ka1 w2 (.cells #[.bool false, .slice none 0 0, .slice none 0 0] 25)
  have hQ1 := hide ((Q3.new (.bool false) (.slice none 0 0) (.slice none 0 0) w2).next (ka0 (w2.alloc (.cells #[.bool false, .slice none 0 0, .slice none 0 0] 25))))
  have hZ1 := hide (Bk.next (Bk.new zR 25 w2) (ka0 _))
  unfold zR at hZ1
  have hlw := hb0.size
  clear hR
  go_cut [6, 7] (fun s6 s7 wx => ∃ (gb : Nat) (r : Pt), s6 = .pointer (some ⟨gb, 0, none⟩) ∧ Bk gb #[.bool r.s, .slice r.A r.xs.length r.a, .slice r.B r.ys.length r.b] 25 wx ∧ r.q = 1 / p.q ∧ r.Ok ∧ r.At wx ∧ Below w2.heap.size w2 wx ∧ w2.heap.size ≤ gb)
  case first =>
    go_region_held3 (fun W => W.cell? ⟨w.heap.size, 0, none⟩ = some (.slice (some ⟨g, o, none⟩) m kc) ∧ W.cell? ⟨g, o, none⟩ = some (.bool p.s) ∧ W.cell? ⟨g, o + 1, none⟩ = some (.slice p.A j1 p.a) ∧ W.cell? ⟨g, o + 2, none⟩ = some (.slice p.B j2 p.b))
      (first | (with_reducible exact hS6.out _ bd1) | (with_reducible exact hS6.out _ ka) | (with_reducible exact hS6.out _ bd2) | (with_reducible exact hS6.out _ (bl_al bd2 _)) | (with_reducible exact hS6.out _ bd3) | (with_reducible exact hS6.out _ (bl_al bd3 _)) | (with_reducible exact hS6.out _ (bd3.trans ((off3 _ _ _ _ _).below bd3.size (fun b hb => by simp at hb; omega)))) | fail)
      (first
        | (go_at_call 62; (with_reducible refine (hO.out w2.drew).mono ?_); rintro e wa ⟨r1, rfl, hr1, hk1, ha1, hb3⟩; have bd2 := bl_trans bd1 hb3; have hle2 := bd2.size; have hQ1 := hide (Q3.new (.bool false) (.slice none 0 0) (.slice none 0 0) wa); have hZ1 := hide (Bk.new zR 25 wa); unfold zR at hZ1; clear hb3)
        | (go_at_call 62; (with_reducible refine (hO.out _).mono ?_); rintro e wa ⟨r1, rfl, hr1, hk1, ha1, hb3⟩; have bd2 := bl_trans ka hb3; have hle2 := bd2.size; have hZ2 := hide (hZ1.out.next hb3); have hQ2 := hide (hQ1.out.next hb3); clear hb3)
        | (go_at_call 61; refine only hZ2 ?_; (with_reducible refine (hQ.out r1 hr1 hk1 wa ha1 bd2).mono ?_); rintro e wb ⟨r, rfl, hr, _, hk2, ha2, hb4⟩; have bd3 := bl_trans bd2 hb4; obtain ⟨v1, v2, v3, v4, v5, v6⟩ := hQ2.out.next hb4; have hZ3 := hide (hZ2.out.next hb4))
        | (go_at_call 61; (with_reducible refine (hQ.out r1 hr1 hk1 wa ha1 bd2).mono ?_); rintro e wb ⟨r, rfl, hr, _, hk2, ha2, hb4⟩; have bd3 := bl_trans bd2 hb4)
        | (go_at_call 61; (with_reducible refine (hQ.out r1 hr1 hk1 _ (ha1.next (bl_al (.refl _ _) _)) (bl_al bd2 _)).mono ?_); rintro e wb ⟨r, rfl, hr, _, hk2, ha2, hb4⟩; have bd3 := bl_trans (bl_al bd2 _) hb4; obtain ⟨v1, v2, v3, v4, v5, v6⟩ := hQ1.out.next hb4; have hZ3 := hide (hZ1.out.next hb4))
        | fail)
    all_goals
      have hle3 := bd3.size
      go_wp2_with fail
      go_meet
      first
        | with_reducible refine ⟨wb.heap.size, r, rfl, ?_⟩
          exact ⟨Bk.new _ _ wb, hr, hk2, ha2.next (bl_al (.refl _ _) _), bl_al bd3 _, hle3⟩
        | with_reducible refine ⟨wa.heap.size, r, rfl, ?_⟩
          exact ⟨b3_set hZ3.out _ _ _, hr, hk2, at_offR hZ3.out ha2 (off3 _ _ _ _ _), bd3.trans ((off3 _ _ _ _ _).below bd3.size (fun b hb => by simp at hb; omega)), hle2⟩
        | with_reducible refine ⟨w2.heap.size, r, rfl, ?_⟩
          exact ⟨b3_set hZ3.out _ _ _, hr, hk2, at_offR hZ3.out ha2 (off3 _ _ _ _ _), bd3.trans ((off3 _ _ _ _ _).below bd3.size (fun b hb => by simp at hb; omega)), Nat.le_refl _⟩
        | fail
  case rest =>
    obtain ⟨gb, r, rfl, hrb, hrq, hrk, hra, hbx, hge⟩ := hcut
    have hge2 : w.heap.size + 2 ≤ gb := by have := hsz2.out; omega
    obtain ⟨⟨⟨y0, y1, y2, y3⟩, hzx⟩, hbwx⟩ := hX6.out wc hbx
    clear x0 x1 x2 x3 c0 c1 c2 c3 hS6 hQ hQ1 hZ1 bd1 ka hO hge hpat
    replace hzx := hide hzx; replace hbwx := hide hbwx
    obtain ⟨b0, b1, b2⟩ := C3.of hrb
    have f0 := hrb.free 0
    have f1 := hrb.free 1
    have f2 := hrb.free 2
    by_cases h3 : k = 3
    · subst h3
      have hS := hide (hS.out r (by rw [hrq, hfk, if_pos rfl]) hrk wc hra hbwx.out)
      clear hfk hrq hrk hra hSz f0 f1 f2 hrb hX6 hbx
      go_wp2_with (first
        | (go_at_call 14; (with_reducible refine hS.out.mono ?_); rintro e w3 (⟨hs, A', k', l', c', rfl, hm', hq', hP, ha, hok, hcok, hb3, hcp⟩ | ⟨hs, rfl, hb3⟩) <;> (try unfold polyV) <;> have hX := hzx.out.next hb3 <;> have r0 := hX.cell (j := 0) rfl <;> have r1 := hX.cell (j := 1) rfl <;> have r2 := hX.cell (j := 2) rfl <;> have r3 := hX.cell (j := 3) rfl <;> have s0 := hX.free 0 <;> have s1 := hX.free 1 <;> have s2 := hX.free 2 <;> have s3 := hX.free 3 <;> replace hX := hide hX <;> have hbw9 := hide (bl_trans hbwx.out hb3) <;> clear hb3 <;> (try replace hm' := hide hm') <;> (try replace hq' := hide hq'))
        | fail)
      · have hO4 := off4 (w.heap.size + 1) w3 (.slice A' l'.length k') (.bool c'.s) (.slice c'.A c'.xs.length c'.a) (.slice c'.B c'.ys.length c'.b)
        exact bodyPost_ret (v := .tuple #[.agg #[.slice A' l'.length k', .bool c'.s, .slice c'.A c'.xs.length c'.a, .slice c'.B c'.ys.length c'.b], .int .i64 0]) (by simp [results, Tryz.results94, go_sem, r0, r1, r2, r3]) rfl (Or.inl ⟨hs, A', k', l', c', rfl, hm'.out, hq'.out, pl_off hX.out hP hO4, at_off hX.out ha hO4, hok, hcok, hbw9.out.trans (hO4.below hbw9.out.size (fun b hb => by simp at hb; omega)), hcp⟩)
      · have hO4 := off4 (w.heap.size + 1) w3 (.slice none 0 0) (.bool false) (.slice none 0 0) (.slice none 0 0)
        exact bodyPost_ret (v := .tuple #[.agg #[.slice none 0 0, .bool false, .slice none 0 0, .slice none 0 0], .int .i64 4]) (by simp [results, Tryz.results94, go_sem, r0, r1, r2, r3]) rfl (Or.inr ⟨hs, rfl, hbw9.out.trans (hO4.below hbw9.out.size (fun b hb => by simp at hb; omega))⟩)
    · have hS2 := hide (fun (t : Pt) (h1 : t.q = absq (1 / p.q)) (h2 : t.Ok) W (h3' : t.At W) (b : Below w.heap.size w W) => hS.out t (by rw [h1, hfk, if_neg h3]) h2 W h3' b)
      have hs1 := hSz.out r hrk wc hra
      unfold rv at hs1
      rw [hrq] at hs1
      replace hs1 := hide hs1
      have e3 := eql_b 3 k 3 false (decide_eq_false h3)
      have e3' : (k != 3) = true := by simpa using h3
      have hpn := box_noU r
      replace hrb := hide hrb
      clear hfk hrq hrk hra hSz hX6 hbx h3 hS
      go_wp2_with (first
        | (go_at_call 123; (with_reducible refine hs1.out.mono ?_); rintro e wa ⟨t, rfl, htq, htk, hta, hb3⟩; have hB2 := hrb.out.next hb3; have hO := off3 gb wa (.bool t.s) (.slice t.A t.xs.length t.a) (.slice t.B t.ys.length t.b); have hbw3 := bl_trans hbwx.out hb3; have hbw4 := hide (hbw3.trans (hO.below hbw3.size (fun b hb => by simp at hb; omega))); have hat := hide (And.intro (hB2.sl hpn hta.1 hO) (hB2.sl hpn hta.2 hO)); have hC := hide (c3_put hB2 (.bool t.s) (.slice t.A t.xs.length t.a) (.slice t.B t.ys.length t.b)); have hS := hide (hS2.out t htq htk _ (show t.At _ from hat.out) hbw4.out); have hzy := hide ((hzx.out.next hb3).off hO (by simp; omega)); have hy := C4.next (w := wc) ⟨y0, y1, y2, y3⟩ hb3; clear b0 b1 b2 f0 f1 f2; obtain ⟨b0, b1, b2⟩ := C3.of hB2; have f0 := hB2.free 0; have f1 := hB2.free 1; have f2 := hB2.free 2; replace hO := hide hO; replace hB2 := hide hB2; clear y0 y1 y2 y3; obtain ⟨y0, y1, y2, y3⟩ := hy; clear hta hb3 htq htk)
        | (go_at_call 14; (with_reducible refine hS.out.mono ?_); rintro e w3 (⟨hs, A', k', l', c', rfl, hm', hq', hP, ha, hok, hcok, hb3, hcp⟩ | ⟨hs, rfl, hb3⟩) <;> (try unfold polyV) <;> have hX := hzy.out.next hb3 <;> have r0 := hX.cell (j := 0) rfl <;> have r1 := hX.cell (j := 1) rfl <;> have r2 := hX.cell (j := 2) rfl <;> have r3 := hX.cell (j := 3) rfl <;> have s0 := hX.free 0 <;> have s1 := hX.free 1 <;> have s2 := hX.free 2 <;> have s3 := hX.free 3 <;> replace hX := hide hX <;> have hbw9 := hide (bl_trans hbw4.out hb3) <;> clear hb3 <;> (try replace hm' := hide hm') <;> (try replace hq' := hide hq'))
        | fail)
      · have hO4 := off4 (w.heap.size + 1) w3 (.slice A' l'.length k') (.bool c'.s) (.slice c'.A c'.xs.length c'.a) (.slice c'.B c'.ys.length c'.b)
        exact bodyPost_ret (v := .tuple #[.agg #[.slice A' l'.length k', .bool c'.s, .slice c'.A c'.xs.length c'.a, .slice c'.B c'.ys.length c'.b], .int .i64 0]) (by simp [results, Tryz.results94, go_sem, r0, r1, r2, r3]) rfl (Or.inl ⟨hs, A', k', l', c', rfl, hm'.out, hq'.out, pl_off hX.out hP hO4, at_off hX.out ha hO4, hok, hcok, hbw9.out.trans (hO4.below hbw9.out.size (fun b hb => by simp at hb; omega)), hcp⟩)
      · have hO4 := off4 (w.heap.size + 1) w3 (.slice none 0 0) (.bool false) (.slice none 0 0) (.slice none 0 0)
        exact bodyPost_ret (v := .tuple #[.agg #[.slice none 0 0, .bool false, .slice none 0 0, .slice none 0 0], .int .i64 4]) (by simp [results, Tryz.results94, go_sem, r0, r1, r2, r3]) rfl (Or.inr ⟨hs, rfl, hbw9.out.trans (hO4.below hbw9.out.size (fun b hb => by simp at hb; omega))⟩)
end Nt

end Go.Proofs.YtgimmmmpollkhaaGreat

namespace Go.Proofs.YtgimmmmpollkhaaGreat

open Go.ChangeShapes Go.RowKit

namespace Nt
set_option maxRecDepth 100000
set_option linter.unusedSimpArgs false
set_option linter.unusedVariables false

def atomV (kd : Int) (A : Option Addr) (n k : Nat) (c : Pt) (a b : Int) : Value := .agg #[.int .i64 kd, .slice A n k, .bool c.s, .slice c.A c.xs.length c.a, .slice c.B c.ys.length c.b, .int .i64 a, .int .i64 b]
def zA : Array Value := #[.int .i64 0, .slice none 0 0, .bool false, .slice none 0 0, .slice none 0 0, .int .i64 0, .int .i64 0]
def slice0 : Value → Bool
  | .slice _ n _ => n == 0
  | _ => true
theorem zA_no : ∀ v ∈ zA.toList, noU v = true := by
  intro v hv
  simp [zA] at hv
  rcases hv with rfl | rfl | rfl | rfl | rfl <;> rfl
theorem zA_s : ∀ v ∈ zA.toList, slice0 v = true := by
  intro v hv
  simp [zA] at hv
  rcases hv with rfl | rfl | rfl | rfl | rfl <;> rfl
theorem Pt.Ok.ylen {p : Pt} (h : p.Ok) : 0 < p.ys.length := by
  rw [h.y, show (digs (qd p.q)).length = ln (qd p.q) from rfl, ln_pos]
  exact p.q.den_pos
theorem pl_offz {g : Nat} {cur : Array Value} {t : TypeId} {W W' : World} {A : Option Addr} {l : List Pt} (h : Bk g cur t W) (hno : ∀ v ∈ cur.toList, noU v = true) (hs : ∀ v ∈ cur.toList, slice0 v = true) (hP : Pl W A l) (ok : ∀ p ∈ l, p.Ok) (hO : Off [g] W W') : Pl W' A l := by
  rcases hP with hP | ⟨b, o, e, hc⟩
  · exact .inl hP
  by_cases hl : l = []
  · exact .inl hl
  have hlp := List.length_pos_iff.2 hl
  have h0 := hc 0 hlp
  have hbg : b ≠ g := by
    rintro rfl
    have h1 := h0.1.2.2.1
    rw [cell_of_row W b _ cur t (0, 0) h] at h1
    have h2 := hs _ (List.mem_of_getElem? (by rw [Array.getElem?_toList]; exact h1))
    have h3 := (ok _ (List.getElem_mem hlp)).ylen
    unfold slice0 at h2
    rw [beq_iff_eq] at h2
    omega
  have hlt : b < W.heap.size := cell_in h0.1.1
  have hn : b ∉ [g] := by simpa using hbg
  refine .inr ⟨b, o, e, fun i hi => ⟨?_, ?_⟩⟩
  · obtain ⟨c1, c2, c3, c4⟩ := (hc i hi).1
    exact ⟨hO.cell c1 hlt hn, hO.cell c2 hlt hn, hO.cell c3 hlt hn, hO.cell c4 hlt hn⟩
  · exact ⟨h.sl hno (hc i hi).2.1 hO, h.sl hno (hc i hi).2.2 hO⟩
theorem off7 (g : Nat) (W : World) (a b c d e f i : Value) : Off [g] W (((((((W.setCell ⟨g, 0, none⟩ a).setCell ⟨g, 1, none⟩ b).setCell ⟨g, 2, none⟩ c).setCell ⟨g, 3, none⟩ d).setCell ⟨g, 4, none⟩ e).setCell ⟨g, 5, none⟩ f).setCell ⟨g, 6, none⟩ i) :=
  (((((((Off.refl [g] W).setCell _ _ (.inl (by simp))).setCell _ _ (.inl (by simp))).setCell _ _ (.inl (by simp))).setCell _ _ (.inl (by simp))).setCell _ _ (.inl (by simp))).setCell _ _ (.inl (by simp))).setCell _ _ (.inl (by simp))
def Ew (w : World) (c : Pt) (A : Option Addr) (n k : Nat) : World := (w.alloc (.cells #[.slice A n k, .bool c.s, .slice c.A c.xs.length c.a, .slice c.B c.ys.length c.b] 27)).alloc (.cells zA 58)
theorem Ew.start (w : World) (c : Pt) (A : Option Addr) (n k : Nat) {W : World} (hb : Below (Ew w c A n k).heap.size (Ew w c A n k) W) : C4 w.heap.size (.slice A n k) (.bool c.s) (.slice c.A c.xs.length c.a) (.slice c.B c.ys.length c.b) W ∧ Bk (w.heap.size + 1) zA 58 W ∧ Below w.heap.size w W := by
  have h1 : Bk w.heap.size #[.slice A n k, .bool c.s, .slice c.A c.xs.length c.a, .slice c.B c.ys.length c.b] 27 (Ew w c A n k) := (Bk.new _ _ w).al _
  have h2 : Bk (w.heap.size + 1) zA 58 (Ew w c A n k) := Bk.new1 _ _ w _
  exact ⟨(C4.of h1).next hb, h2.next hb, bl_trans (bl_al (bl_al (.refl _ _) _) _) hb⟩
def ANo (k : Nat) (w : World) (e : Ending) (w' : World) : Prop := e = .returned (.tuple #[.agg #[.int .i64 0, .slice none 0 0, .bool false, .slice none 0 0, .slice none 0 0, .int .i64 0, .int .i64 0], .bool false, .int .i64 (k : Int)]) ∧ Below w.heap.size w w'
theorem ano_done {w W : World} {g : Nat} (k : Nat) (hbw : Below w.heap.size w W) (hg : w.heap.size ≤ g) (a b c d e f i : Value) :
    ANo k w (.returned (.tuple #[.agg #[.int .i64 0, .slice none 0 0, .bool false, .slice none 0 0, .slice none 0 0, .int .i64 0, .int .i64 0], .bool false, .int .i64 (k : Int)])) (((((((W.setCell ⟨g, 0, none⟩ a).setCell ⟨g, 1, none⟩ b).setCell ⟨g, 2, none⟩ c).setCell ⟨g, 3, none⟩ d).setCell ⟨g, 4, none⟩ e).setCell ⟨g, 5, none⟩ f).setCell ⟨g, 6, none⟩ i) :=
  ⟨rfl, hbw.trans ((off7 g W a b c d e f i).below hbw.size (fun b hb => by simp at hb; omega))⟩
def AtR (w : World) (kd : Int) (nt : Bool) (L : List (Rat × Int)) (q : Rat) (e : Ending) (w' : World) : Prop := ∃ A k l c, e = .returned (.tuple #[atomV kd A l.length k c 0 0, .bool nt, .int .i64 0]) ∧ l.map Pt.qt = L ∧ c.q = q ∧ Pl w' A l ∧ c.At w' ∧ (∀ p ∈ l, p.Ok) ∧ c.Ok ∧ Below w.heap.size w w' ∧ l.length ≤ k ∧ k ≤ maxLen
def MkO (w : World) (b : Bool) (kd : Int) (nt : Bool) (L : List (Rat × Int)) (q : Rat) (e : Ending) (w' : World) : Prop := (b = true ∧ AtR w kd nt L q e w') ∨ (b = false ∧ ANo 4 w e w')
theorem at_done {w W : World} {kd : Int} {nt : Bool} {L : List (Rat × Int)} {q : Rat} {A : Option Addr} {k : Nat} {l : List Pt} {c : Pt} (hbw : Below w.heap.size w W) (hR : Bk (w.heap.size + 1) zA 58 W) (m : l.map Pt.qt = L) (hq : c.q = q) (hP : Pl W A l) (ha : c.At W) (ok : ∀ p ∈ l, p.Ok) (hc : c.Ok) (hy : l.length ≤ k) (hx : k ≤ maxLen) :
    AtR w kd nt L q (.returned (.tuple #[atomV kd A l.length k c 0 0, .bool nt, .int .i64 0])) (((((((W.setCell ⟨w.heap.size + 1, 0, none⟩ (.int .i64 kd)).setCell ⟨w.heap.size + 1, 1, none⟩ (.slice A l.length k)).setCell ⟨w.heap.size + 1, 2, none⟩ (.bool c.s)).setCell ⟨w.heap.size + 1, 3, none⟩ (.slice c.A c.xs.length c.a)).setCell ⟨w.heap.size + 1, 4, none⟩ (.slice c.B c.ys.length c.b)).setCell ⟨w.heap.size + 1, 5, none⟩ (.int .i64 0)).setCell ⟨w.heap.size + 1, 6, none⟩ (.int .i64 0)) := by
  have hO := off7 (w.heap.size + 1) W (.int .i64 kd) (.slice A l.length k) (.bool c.s) (.slice c.A c.xs.length c.a) (.slice c.B c.ys.length c.b) (.int .i64 0) (.int .i64 0)
  exact ⟨A, k, l, c, rfl, m, hq, pl_offz hR zA_no zA_s hP ok hO, ⟨hR.sl zA_no ha.1 hO, hR.sl zA_no ha.2 hO⟩, ok, hc, hbw.trans (hO.below hbw.size (fun b hb => by simp at hb; omega)), hy, hx⟩
def fmL (k : Int) : List (Rat × Int) → List (Rat × Int)
  | [] => []
  | x :: L => scq' (fby k x.1) (x :: L)
def fmQ (k : Int) (q : Rat) : List (Rat × Int) → Rat
  | [] => ((cmpZ q.num 0 : Int) : Rat)
  | x :: _ => q * fby k x.1
def fmB (k : Int) (q : Rat) : List (Rat × Int) → Bool
  | [] => true
  | x :: L => (x :: L).all (fun y => fitB (y.1 * fby k x.1)) && fitB (q * fby k x.1)
theorem formed_p (k : Int) (A : Option Addr) (l : List Pt) (kc : Nat) (c : Pt) (w : World) (hl : Pl w A l) (ok : ∀ r ∈ l, r.Ok) (hc : c.At w) (fc : c.Ok) (hv : pvB (-1) l = true) (hn : l.length ≤ 1000) :
    Calls Tryz.prog 94 #[.int .i64 k, polyV A l.length kc c] w (ScO w (fmB k c.q (l.map Pt.qt)) (fmL k (l.map Pt.qt)) (fmQ k c.q (l.map Pt.qt))) := by
  rcases l with _ | ⟨p, l⟩
  · exact (formed_nil k A kc c w hc fc).mono fun e w' h => Or.inl ⟨rfl, h⟩
  · have h := formed_cons k A p l kc c w hl ok hc fc hv hn
    rw [scB_q, scaleL_q] at h
    exact h

set_option maxHeartbeats 8000000 in
theorem make_ok (k : Int) (A : Option Addr) (l : List Pt) (kc : Nat) (c : Pt) (w : World) (hl : Pl w A l) (hc : c.At w) (ok : ∀ p ∈ l, p.Ok) (fc : c.Ok) (hv : pvB (-1) l = true) (hn : l.length ≤ 1000) (hk : k = 1 ∨ k = 2 ∨ k = 3 ∨ k = 4) (kd : Int) (hkd : (if k = 4 then 3 else k) = kd) (nt : Bool) (hnt : decide (k = 4) = nt) :
    Calls Tryz.prog 50 #[.int .i64 k, polyV A l.length kc c] w (MkO w (fmB kd c.q (l.map Pt.qt)) kd nt (fmL kd (l.map Pt.qt)) (fmQ kd c.q (l.map Pt.qt))) := by
  have hV := hide (fun W (b : Below w.heap.size w W) => lvalid_any A l kc c W (hl.next b) (hc.next b) (fun p hp => (ok p hp).few) fc.few hn true (by rw [hv, fc.valid]; rfl))
  have hK := hide (fun (k : Int) (h : sumK k = true) (W : World) => (show Calls Tryz.prog 88 #[.int .i64 k] W fun e w' => e = .returned (.bool true) ∧ w' = W from by have := ofsum_k k W; rwa [h] at this))
  have hF := hide (fun W (b : Below w.heap.size w W) => formed_p kd A l kc c W (hl.next b) ok (hc.next b) fc hv hn)
  have hst := hide (fun W (b : Below (Ew w c A l.length kc).heap.size (Ew w c A l.length kc) W) => Ew.start w c A l.length kc b)
  have hb0 : Below w.heap.size w (Ew w c A l.length kc) := bl_al (bl_al (.refl _ _) _) _
  have hbz := hide (hst.out _ (Below.refl _ _))
  clear hl hc ok fc hv
  generalize fmB kd c.q (l.map Pt.qt) = bb at *
  generalize fmL kd (l.map Pt.qt) = LL at *
  generalize fmQ kd c.q (l.map Pt.qt) = rr at *
  obtain ⟨n, hnn⟩ : ∃ n, n = l.length := ⟨_, rfl⟩
  unfold polyV at *
  unfold Ew zA at hb0 hst hbz
  rw [← hnn] at hV hF hst hb0 hbz hn ⊢
  clear hnn
  replace hst := hide hst.out
  replace hb0 := hide hb0
  generalize c.xs.length = i1 at *
  generalize c.ys.length = i2 at *
  obtain ⟨⟨x0, x1, x2, x3⟩, _, _⟩ := hbz.out
  have hfin := hide (fun W (b : Below w.heap.size w W) x0 x1 x2 x3 x4 x5 x6 => ano_done (g := w.heap.size + 1) 4 b (by omega) x0 x1 x2 x3 x4 x5 x6)
  have hfok := hide (fun (W : World) (A' : Option Addr) (k' : Nat) (l' : List Pt) (c' : Pt) (b : Below w.heap.size w W) (hR : Bk (w.heap.size + 1) zA 58 W) (m : l'.map Pt.qt = LL) (q : c'.q = rr) (P : Pl W A' l') (a : c'.At W) (o : ∀ p ∈ l', p.Ok) (z : c'.Ok) (y : l'.length ≤ k') (x : k' ≤ maxLen) => at_done (kd := kd) (nt := nt) b hR m q P a o z y x)
  rcases hk with rfl | rfl | rfl | rfl
  all_goals
    simp only [reduceIte, Int.reduceEq, decide_true, decide_false] at hkd hnt
    subst hkd
    subst hnt
    go_enter Tryz.func50, Tryz.ntmps50
    go_wp2_with (first
      | (go_at_call 88; (with_reducible refine (hK.out _ (by decide) _).mono ?_); rintro e w1 ⟨rfl, rfl⟩)
      | (go_at_call 25; (with_reducible refine (hV.out _ hb0.out).mono ?_); rintro e w2 ⟨rfl, hb2⟩; clear x0 x1 x2 x3; obtain ⟨⟨x0, x1, x2, x3⟩, _, hbw⟩ := hst.out w2 hb2; replace hbw := hide hbw; replace hb2 := hide hb2)
      | (go_at_call 94; (with_reducible refine (hF.out _ hbw.out).mono ?_); rintro e w3 (⟨hs, A', k', l', c', rfl, hm, hq, hP, ha, hok, hcok, hb3, hy, hx⟩ | ⟨hs, rfl, hb3⟩) <;> (try unfold polyV) <;> first | (refine only hm ?_; obtain ⟨_, hR, hbw3⟩ := hst.out w3 (bl_trans hb2.out hb3); replace hR := hR.al (.cells #[.slice A' l'.length k', .bool c'.s, .slice c'.A c'.xs.length c'.a, .slice c'.B c'.ys.length c'.b] 27); have hbw4 := hide (bl_al hbw3 (.cells #[.slice A' l'.length k', .bool c'.s, .slice c'.A c'.xs.length c'.a, .slice c'.B c'.ys.length c'.b] 27)); replace hP := hide (hP.next (bl_al (.refl _ _) (.cells #[.slice A' l'.length k', .bool c'.s, .slice c'.A c'.xs.length c'.a, .slice c'.B c'.ys.length c'.b] 27))); replace ha := hide (ha.next (bl_al (.refl _ _) (.cells #[.slice A' l'.length k', .bool c'.s, .slice c'.A c'.xs.length c'.a, .slice c'.B c'.ys.length c'.b] 27))); have r0 := hR.cell (j := 0) rfl; have s0 := hR.free 0; have r1 := hR.cell (j := 1) rfl; have s1 := hR.free 1; have r2 := hR.cell (j := 2) rfl; have s2 := hR.free 2; have r3 := hR.cell (j := 3) rfl; have s3 := hR.free 3; have r4 := hR.cell (j := 4) rfl; have s4 := hR.free 4; have r5 := hR.cell (j := 5) rfl; have s5 := hR.free 5; have r6 := hR.cell (j := 6) rfl; have s6 := hR.free 6; replace hR := hide hR; replace hm := hide hm; replace hq := hide hq; replace hok := hide hok; replace hcok := hide hcok; replace hy := hide hy; replace hx := hide hx; clear hb3 hbw3) | (obtain ⟨_, hR, hbw3⟩ := hst.out w3 (bl_trans hb2.out hb3); replace hR := hR.al (.cells #[.slice none 0 0, .bool false, .slice none 0 0, .slice none 0 0] 27); have hbw4 := hide (bl_al hbw3 (.cells #[.slice none 0 0, .bool false, .slice none 0 0, .slice none 0 0] 27)); have r0 := hR.cell (j := 0) rfl; have s0 := hR.free 0; have r1 := hR.cell (j := 1) rfl; have s1 := hR.free 1; have r2 := hR.cell (j := 2) rfl; have s2 := hR.free 2; have r3 := hR.cell (j := 3) rfl; have s3 := hR.free 3; have r4 := hR.cell (j := 4) rfl; have s4 := hR.free 4; have r5 := hR.cell (j := 5) rfl; have s5 := hR.free 5; have r6 := hR.cell (j := 6) rfl; have s6 := hR.free 6; replace hR := hide hR; clear hb3 hbw3))
      | fail)
    all_goals
      first
      | exact bodyPost_ret (v := .tuple #[.agg #[.int .i64 1, .slice A' l'.length k', .bool c'.s, .slice c'.A c'.xs.length c'.a, .slice c'.B c'.ys.length c'.b, .int .i64 0, .int .i64 0], .bool false, .int .i64 0]) (by simp [results, Tryz.results50, go_sem, r0, r1, r2, r3, r4, r5, r6]) rfl (Or.inl ⟨hs, hfok.out _ A' k' l' c' hbw4.out hR.out hm.out hq.out hP.out ha.out hok.out hcok.out hy.out hx.out⟩)
      | exact bodyPost_ret (v := .tuple #[.agg #[.int .i64 2, .slice A' l'.length k', .bool c'.s, .slice c'.A c'.xs.length c'.a, .slice c'.B c'.ys.length c'.b, .int .i64 0, .int .i64 0], .bool false, .int .i64 0]) (by simp [results, Tryz.results50, go_sem, r0, r1, r2, r3, r4, r5, r6]) rfl (Or.inl ⟨hs, hfok.out _ A' k' l' c' hbw4.out hR.out hm.out hq.out hP.out ha.out hok.out hcok.out hy.out hx.out⟩)
      | exact bodyPost_ret (v := .tuple #[.agg #[.int .i64 3, .slice A' l'.length k', .bool c'.s, .slice c'.A c'.xs.length c'.a, .slice c'.B c'.ys.length c'.b, .int .i64 0, .int .i64 0], .bool false, .int .i64 0]) (by simp [results, Tryz.results50, go_sem, r0, r1, r2, r3, r4, r5, r6]) rfl (Or.inl ⟨hs, hfok.out _ A' k' l' c' hbw4.out hR.out hm.out hq.out hP.out ha.out hok.out hcok.out hy.out hx.out⟩)
      | exact bodyPost_ret (v := .tuple #[.agg #[.int .i64 3, .slice A' l'.length k', .bool c'.s, .slice c'.A c'.xs.length c'.a, .slice c'.B c'.ys.length c'.b, .int .i64 0, .int .i64 0], .bool true, .int .i64 0]) (by simp [results, Tryz.results50, go_sem, r0, r1, r2, r3, r4, r5, r6]) rfl (Or.inl ⟨hs, hfok.out _ A' k' l' c' hbw4.out hR.out hm.out hq.out hP.out ha.out hok.out hcok.out hy.out hx.out⟩)
      | exact bodyPost_ret (v := .tuple #[.agg #[.int .i64 0, .slice none 0 0, .bool false, .slice none 0 0, .slice none 0 0, .int .i64 0, .int .i64 0], .bool false, .int .i64 4]) (by simp [results, Tryz.results50, go_sem, r0, r1, r2, r3, r4, r5, r6]) rfl (Or.inr ⟨hs, hfin.out _ hbw4.out _ _ _ _ _ _ _⟩)
      | fail
end Nt

end Go.Proofs.YtgimmmmpollkhaaGreat

namespace Go.Proofs.YtgimmmmpollkhaaGreat

open Go.ChangeShapes Go.RowKit

namespace Nt
set_option maxRecDepth 100000
set_option linter.unusedSimpArgs false
set_option linter.unusedVariables false

def C7 (g : Nat) (v0 v1 v2 v3 v4 v5 v6 : Value) (w : World) : Prop := w.cell? ⟨g, 0, none⟩ = some v0 ∧ w.cell? ⟨g, 1, none⟩ = some v1 ∧ w.cell? ⟨g, 2, none⟩ = some v2 ∧ w.cell? ⟨g, 3, none⟩ = some v3 ∧ w.cell? ⟨g, 4, none⟩ = some v4 ∧ w.cell? ⟨g, 5, none⟩ = some v5 ∧ w.cell? ⟨g, 6, none⟩ = some v6
theorem C7.new (v0 v1 v2 v3 v4 v5 v6 : Value) (t : TypeId) (w : World) : C7 w.heap.size v0 v1 v2 v3 v4 v5 v6 (w.alloc (.cells #[v0, v1, v2, v3, v4, v5, v6] t)) := by
  have h := Bk.new #[v0, v1, v2, v3, v4, v5, v6] t w
  exact ⟨h.cell rfl, h.cell rfl, h.cell rfl, h.cell rfl, h.cell rfl, h.cell rfl, h.cell rfl⟩
theorem C7.of {g : Nat} {v0 v1 v2 v3 v4 v5 v6 : Value} {t : TypeId} {W : World} (h : Bk g #[v0, v1, v2, v3, v4, v5, v6] t W) : C7 g v0 v1 v2 v3 v4 v5 v6 W := ⟨h.cell rfl, h.cell rfl, h.cell rfl, h.cell rfl, h.cell rfl, h.cell rfl, h.cell rfl⟩
theorem C7.next {g : Nat} {v0 v1 v2 v3 v4 v5 v6 : Value} {w w' : World} (h : C7 g v0 v1 v2 v3 v4 v5 v6 w) (hb : Below w.heap.size w w') : C7 g v0 v1 v2 v3 v4 v5 v6 w' := ⟨cell_next hb h.1, cell_next hb h.2.1, cell_next hb h.2.2.1, cell_next hb h.2.2.2.1, cell_next hb h.2.2.2.2.1, cell_next hb h.2.2.2.2.2.1, cell_next hb h.2.2.2.2.2.2⟩

set_option maxHeartbeats 8000000 in
theorem valid_sum (k : Int) (hk : k = 1 ∨ k = 2 ∨ k = 3) (A : Option Addr) (l : List Pt) (kc : Nat) (c : Pt) (a b : Int) (w : World) (hl : Pl w A l) (hc : c.At w) (fl : ∀ p ∈ l, p.Few) (fc : c.Few) (hn : l.length ≤ 1000) (r : Bool) (hr : (decide (a = 0) && decide (b = 0) && (pvB (-1) l && c.ok) && formB k (l.map Pt.qt)) = r) :
    Calls Tryz.prog 44 #[atomV k A l.length kc c a b] w fun e w' => e = .returned (.bool r) ∧ Below w.heap.size w w' := by
  obtain ⟨x, hx⟩ : ∃ x, decide (a = 0) = x := ⟨_, rfl⟩
  obtain ⟨y, hy⟩ : ∃ y, decide (b = 0) = y := ⟨_, rfl⟩
  obtain ⟨v, hv⟩ : ∃ v, (pvB (-1) l && c.ok) = v := ⟨_, rfl⟩
  obtain ⟨z, hz⟩ : ∃ z, formB k (l.map Pt.qt) = z := ⟨_, rfl⟩
  have e1 := eql_b 3 a 0 x hx
  have e2 := eql_b 3 b 0 y hy
  rw [hx, hy, hv, hz] at hr
  subst hr
  have hV := hide (fun W (b : Below w.heap.size w W) => lvalid_any A l kc c W (hl.next b) (hc.next b) fl fc hn v hv)
  have hF := hide (fun (hvt : v = true) W (b : Below w.heap.size w W) => (show Calls Tryz.prog 91 #[.int .i64 k, polyV A l.length kc c] W fun e w' => e = .returned (.bool z) ∧ Below W.heap.size W w' from by
    have h := hasform_p k A l kc c W (hl.next b) (pvB_ok (by rw [hvt, Bool.and_eq_true] at hv; exact hv.1) fl) (by omega)
    rw [hz] at h
    exact h))
  clear hl hc fl fc hx hy hv hz
  unfold atomV polyV at *
  generalize l.length = n at *
  generalize c.xs.length = i1 at *
  generalize c.ys.length = i2 at *
  have hX := hide (C7.new (.int .i64 k) (.slice A n kc) (.bool c.s) (.slice c.A i1 c.a) (.slice c.B i2 c.b) (.int .i64 a) (.int .i64 b) 58 w)
  have hb0 := hide (bl_al (.refl _ _) (.cells #[.int .i64 k, .slice A n kc, .bool c.s, .slice c.A i1 c.a, .slice c.B i2 c.b, .int .i64 a, .int .i64 b] 58) : Below w.heap.size w _)
  obtain ⟨x0, x1, x2, x3, x4, x5, x6⟩ := hX.out
  rcases hk with rfl | rfl | rfl
  all_goals
    rcases x with _ | _
    · clear hV hF e2
      go_enter Tryz.func44, Tryz.ntmps44
      go_wp2_with fail
      go_ret
      exact ⟨rfl, hb0.out⟩
    rcases y with _ | _
    · clear hV hF
      go_enter Tryz.func44, Tryz.ntmps44
      go_wp2_with fail
      go_ret
      exact ⟨rfl, hb0.out⟩
    rcases v with _ | _
    · clear hF
      go_enter Tryz.func44, Tryz.ntmps44
      go_wp2_with (first
        | (go_at_call 25; (with_reducible refine (hV.out _ hb0.out).mono ?_); rintro e w2 ⟨rfl, hb2⟩; replace hb2 := hide (bl_trans hb0.out hb2))
        | fail)
      go_ret
      exact ⟨rfl, hb2.out⟩
    · have hF1 := hide (hF.out rfl)
      clear hF
      go_enter Tryz.func44, Tryz.ntmps44
      go_wp2_with (first
        | (go_at_call 25; (with_reducible refine (hV.out _ hb0.out).mono ?_); rintro e w2 ⟨rfl, hb2⟩; clear x0 x1 x2 x3 x4 x5 x6; obtain ⟨x0, x1, x2, x3, x4, x5, x6⟩ := hX.out.next hb2; replace hb2 := hide (bl_trans hb0.out hb2))
        | (go_at_call 91; (with_reducible refine (hF1.out _ hb2.out).mono ?_); rintro e w3 ⟨rfl, hb3⟩; replace hb3 := hide (bl_trans hb2.out hb3))
        | fail)
      go_ret
      exact ⟨rfl, hb3.out⟩

set_option maxHeartbeats 8000000 in
theorem asame_p (k k' : Int) (A B : Option Addr) (l m : List Pt) (kc kd : Nat) (c d : Pt) (a a' b b' : Int) (w : World) (hl : Pl w A l) (hm : Pl w B m) (fl : ∀ p ∈ l, p.Ok) (fm : ∀ p ∈ m, p.Ok) (hc : c.At w) (hd : d.At w) (fc : c.Ok) (fd : d.Ok) (nl : l.length ≤ 1000000) (nm : m.length ≤ 1000000) (r : Bool)
    (hr : (decide (k = k') && decide (a = a') && decide (b = b') && (decide (l.map Pt.qt = m.map Pt.qt) && decide (c.q = d.q))) = r) :
    Calls Tryz.prog 47 #[atomV k A l.length kc c a b, atomV k' B m.length kd d a' b'] w fun e w' => e = .returned (.bool r) ∧ Below w.heap.size w w' := by
  obtain ⟨x, hx⟩ : ∃ x, decide (k = k') = x := ⟨_, rfl⟩
  obtain ⟨y, hy⟩ : ∃ y, decide (a = a') = y := ⟨_, rfl⟩
  obtain ⟨z, hz⟩ : ∃ z, decide (b = b') = z := ⟨_, rfl⟩
  obtain ⟨v, hv⟩ : ∃ v, (decide (l.map Pt.qt = m.map Pt.qt) && decide (c.q = d.q)) = v := ⟨_, rfl⟩
  have e1 := eql_b 3 k k' x hx
  have e2 := eql_b 3 a a' y hy
  have e3 := eql_b 3 b b' z hz
  rw [hx, hy, hz, hv] at hr
  subst hr
  have hS := hide (fun W (b : Below w.heap.size w W) => (show Calls Tryz.prog 29 #[polyV A l.length kc c, polyV B m.length kd d] W fun e w' => e = .returned (.bool v) ∧ Below W.heap.size W w' from by
    have h := lsame_p A B kc kd l m c d W (hl.next b) (hm.next b) fl fm (hc.next b) (hd.next b) fc fd nl nm _ _ rfl rfl
    rw [hv] at h
    exact h))
  clear hl hm fl fm hc hd fc fd nl nm hx hy hz hv
  unfold atomV polyV at *
  generalize l.length = n at *
  generalize c.xs.length = i1 at *
  generalize c.ys.length = i2 at *
  generalize m.length = o at *
  generalize d.xs.length = i3 at *
  generalize d.ys.length = i4 at *
  have hX := hide ((C7.new (.int .i64 k) (.slice A n kc) (.bool c.s) (.slice c.A i1 c.a) (.slice c.B i2 c.b) (.int .i64 a) (.int .i64 b) 58 w).next (bl_al (.refl _ _) (.cells #[.int .i64 k', .slice B o kd, .bool d.s, .slice d.A i3 d.a, .slice d.B i4 d.b, .int .i64 a', .int .i64 b'] 58)))
  have hY := hide (C7.of (Bk.new1 #[.int .i64 k', .slice B o kd, .bool d.s, .slice d.A i3 d.a, .slice d.B i4 d.b, .int .i64 a', .int .i64 b'] 58 w (.cells #[.int .i64 k, .slice A n kc, .bool c.s, .slice c.A i1 c.a, .slice c.B i2 c.b, .int .i64 a, .int .i64 b] 58)))
  have hb0 := hide (bl_al (bl_al (.refl _ _) (.cells #[.int .i64 k, .slice A n kc, .bool c.s, .slice c.A i1 c.a, .slice c.B i2 c.b, .int .i64 a, .int .i64 b] 58)) (.cells #[.int .i64 k', .slice B o kd, .bool d.s, .slice d.A i3 d.a, .slice d.B i4 d.b, .int .i64 a', .int .i64 b'] 58) : Below w.heap.size w _)
  obtain ⟨x0, x1, x2, x3, x4, x5, x6⟩ := hX.out
  obtain ⟨y0, y1, y2, y3, y4, y5, y6⟩ := hY.out
  clear hX hY
  rcases x with _ | _
  · clear hS e2 e3
    go_enter Tryz.func47, Tryz.ntmps47
    go_wp2_with fail
    go_ret
    exact ⟨rfl, hb0.out⟩
  rcases y with _ | _
  · clear hS e3
    go_enter Tryz.func47, Tryz.ntmps47
    go_wp2_with fail
    go_ret
    exact ⟨rfl, hb0.out⟩
  rcases z with _ | _
  · clear hS
    go_enter Tryz.func47, Tryz.ntmps47
    go_wp2_with fail
    go_ret
    exact ⟨rfl, hb0.out⟩
  · go_enter Tryz.func47, Tryz.ntmps47
    go_wp2_with (first
      | (go_at_call 29; (with_reducible refine (hS.out _ hb0.out).mono ?_); rintro e w2 ⟨rfl, hb2⟩; replace hb2 := hide (bl_trans hb0.out hb2))
      | fail)
    go_ret
    exact ⟨rfl, hb2.out⟩

def atomZ (k x y : Int) : Value := .agg #[.int .i64 k, .slice none 0 0, .bool false, .slice none 0 0, .slice none 0 0, .int .i64 x, .int .i64 y]
set_option maxHeartbeats 4000000 in
theorem abool_k (x : Int) (w : World) : Calls Tryz.prog 84 #[.int .i64 x] w fun e w' => e = .returned (if x < 0 then .tuple #[atomZ 0 0 0, .int .i64 1] else .tuple #[atomZ 6 x 0, .int .i64 0]) ∧ Below w.heap.size w w' := by
  unfold atomZ
  have hR := hide (Bk.new zA 58 w)
  unfold zA at *
  have hb := hide (fun X => (bl_al (.refl _ w) X : Below w.heap.size w (w.alloc X)))
  obtain ⟨x0, x1, x2, x3, x4, x5, x6⟩ := C7.of hR.out
  have s0 := hR.out.free 0
  have s1 := hR.out.free 1
  have s2 := hR.out.free 2
  have s3 := hR.out.free 3
  have s4 := hR.out.free 4
  have s5 := hR.out.free 5
  have s6 := hR.out.free 6
  have hQ := hide (C7.new (.int .i64 6) (.slice none 0 0) (.bool false) (.slice none 0 0) (.slice none 0 0) (.int .i64 x) (.int .i64 0) 58 w)
  obtain ⟨y, hy⟩ : ∃ y, decide (x < 0) = y := ⟨_, rfl⟩
  have e1 := lss_b 3 x 0 y hy
  rcases y with _ | _
  · rw [if_neg (of_decide_eq_false hy)]
    clear hy
    go_enter Tryz.func84, Tryz.ntmps84
    go_wp2_with fail
    clear x0 x1 x2 x3 x4 x5 x6
    obtain ⟨x0, x1, x2, x3, x4, x5, x6⟩ := hQ.out
    exact bodyPost_ret (v := .tuple #[.agg #[.int .i64 6, .slice none 0 0, .bool false, .slice none 0 0, .slice none 0 0, .int .i64 x, .int .i64 0], .int .i64 0]) (by simp [results, Tryz.results84, go_sem, x0, x1, x2, x3, x4, x5, x6]) rfl ⟨rfl, hb.out _⟩
  · rw [if_pos (of_decide_eq_true hy)]
    clear hy
    go_enter Tryz.func84, Tryz.ntmps84
    go_wp2_with fail
    exact bodyPost_ret (v := .tuple #[.agg #[.int .i64 0, .slice none 0 0, .bool false, .slice none 0 0, .slice none 0 0, .int .i64 0, .int .i64 0], .int .i64 1]) (by simp [results, Tryz.results84, go_sem, x0, x1, x2, x3, x4, x5, x6]) rfl ⟨rfl, hb.out _⟩

set_option maxHeartbeats 4000000 in
theorem aequal_k (x y : Int) (w : World) : Calls Tryz.prog 83 #[.int .i64 x, .int .i64 y] w fun e w' => e = .returned (if x = y ∨ x < 0 ∨ y < 0 then .tuple #[atomZ 0 0 0, .int .i64 1] else .tuple #[atomZ 5 (min x y) (max x y), .int .i64 0]) ∧ Below w.heap.size w w' := by
  unfold atomZ
  have hR := hide (Bk.new zA 58 w)
  unfold zA at *
  have hb := hide (fun X => (bl_al (.refl _ w) X : Below w.heap.size w (w.alloc X)))
  obtain ⟨x0, x1, x2, x3, x4, x5, x6⟩ := C7.of hR.out
  have hQ := hide (fun a b => C7.new (.int .i64 5) (.slice none 0 0) (.bool false) (.slice none 0 0) (.slice none 0 0) (.int .i64 a) (.int .i64 b) 58 w)
  obtain ⟨b1, h1⟩ : ∃ b, decide (x = y) = b := ⟨_, rfl⟩
  obtain ⟨b2, h2⟩ : ∃ b, decide (x < 0) = b := ⟨_, rfl⟩
  obtain ⟨b3, h3⟩ : ∃ b, decide (y < 0) = b := ⟨_, rfl⟩
  have e1 := eql_b 3 x y b1 h1
  have e2 := lss_b 3 x 0 b2 h2
  have e3 := lss_b 3 y 0 b3 h3
  rcases b1 with _ | _
  · rcases b2 with _ | _
    · rcases b3 with _ | _
      · rw [if_neg (by simp only [decide_eq_false_iff_not] at h1 h2 h3; rintro (h | h | h) <;> contradiction)]
        clear h1 h2 h3
        go_enter Tryz.func83, Tryz.ntmps83
        go_wp2_with fail
        clear x0 x1 x2 x3 x4 x5 x6
        obtain ⟨x0, x1, x2, x3, x4, x5, x6⟩ := hQ.out (min x y) (max x y)
        exact bodyPost_ret (v := .tuple #[.agg #[.int .i64 5, .slice none 0 0, .bool false, .slice none 0 0, .slice none 0 0, .int .i64 (min x y), .int .i64 (max x y)], .int .i64 0]) (by simp [results, Tryz.results83, go_sem, x0, x1, x2, x3, x4, x5, x6]) rfl ⟨rfl, hb.out _⟩
      · rw [if_pos (.inr (.inr (of_decide_eq_true h3)))]
        clear h1 h2 h3
        go_enter Tryz.func83, Tryz.ntmps83
        go_wp2_with fail
        exact bodyPost_ret (v := .tuple #[.agg #[.int .i64 0, .slice none 0 0, .bool false, .slice none 0 0, .slice none 0 0, .int .i64 0, .int .i64 0], .int .i64 1]) (by simp [results, Tryz.results83, go_sem, x0, x1, x2, x3, x4, x5, x6]) rfl ⟨rfl, hb.out _⟩
    · rw [if_pos (.inr (.inl (of_decide_eq_true h2)))]
      clear h1 h2 h3
      go_enter Tryz.func83, Tryz.ntmps83
      go_wp2_with fail
      exact bodyPost_ret (v := .tuple #[.agg #[.int .i64 0, .slice none 0 0, .bool false, .slice none 0 0, .slice none 0 0, .int .i64 0, .int .i64 0], .int .i64 1]) (by simp [results, Tryz.results83, go_sem, x0, x1, x2, x3, x4, x5, x6]) rfl ⟨rfl, hb.out _⟩
  · rw [if_pos (.inl (of_decide_eq_true h1))]
    clear h1 h2 h3
    go_enter Tryz.func83, Tryz.ntmps83
    go_wp2_with fail
    exact bodyPost_ret (v := .tuple #[.agg #[.int .i64 0, .slice none 0 0, .bool false, .slice none 0 0, .slice none 0 0, .int .i64 0, .int .i64 0], .int .i64 1]) (by simp [results, Tryz.results83, go_sem, x0, x1, x2, x3, x4, x5, x6]) rfl ⟨rfl, hb.out _⟩
end Nt

end Go.Proofs.YtgimmmmpollkhaaGreat

namespace Go.Proofs.YtgimmmmpollkhaaGreat

open Go.ChangeShapes Go.RowKit

namespace Nt
set_option maxRecDepth 100000
set_option linter.unusedSimpArgs false
set_option linter.unusedVariables false

def avB (k : Int) (l : List Pt) (c : Pt) (a b : Int) : Bool := decide (a = 0) && decide (b = 0) && (pvB (-1) l && c.ok) && formB k (l.map Pt.qt)
theorem sumK_of {k : Int} (h : sumK k = true) : k = 1 ∨ k = 2 ∨ k = 3 := of_decide_eq_true h
theorem avB_ok {k : Int} {l : List Pt} {c : Pt} {a b : Int} (h : avB k l c a b = true) : a = 0 ∧ b = 0 ∧ pvB (-1) l = true ∧ c.ok = true ∧ formB k (l.map Pt.qt) = true := by
  unfold avB at h
  simp only [Bool.and_eq_true, decide_eq_true_eq] at h
  exact ⟨h.1.1.1, h.1.1.2, h.1.2.1, h.1.2.2, h.2⟩

set_option maxHeartbeats 8000000 in
theorem trivial_k (k : Int) (A : Option Addr) (l : List Pt) (kc : Nat) (c : Pt) (a b : Int) (w : World) (hl : Pl w A l) (hc : c.At w) (fl : ∀ p ∈ l, p.Few) (fc : c.Few) (hn : l.length ≤ 1000) (t : Bool) (ht : (sumK k && decide (l.length = 0) && avB k l c a b) = t) :
    Calls Tryz.prog 38 #[atomV k A l.length kc c a b] w fun e w' => e = .returned (.tuple #[.bool (t && stB k c.q), .bool t]) ∧ Below w.heap.size w w' := by
  obtain ⟨s, hs⟩ : ∃ s, sumK k = s := ⟨_, rfl⟩
  obtain ⟨v, hv⟩ : ∃ v, avB k l c a b = v := ⟨_, rfl⟩
  have hO := hide (fun W => (show Calls Tryz.prog 88 #[.int .i64 k] W fun e w' => e = .returned (.bool s) ∧ w' = W from by have := ofsum_k k W; rwa [hs] at this))
  have hV := hide (fun (h : s = true) W (bl : Below w.heap.size w W) => valid_sum k (sumK_of (hs.trans h)) A l kc c a b W (hl.next bl) (hc.next bl) fl fc hn v hv)
  have hS := hide (fun (h : v = true) W (bl : Below w.heap.size w W) => stands_p k (ok_of fc (avB_ok (hv.trans h)).2.2.2.1) W (hc.next bl))
  have hg : ∀ b, decide ((l.length : Int) > 0) = b → binOp .gtr 3 (.int .i64 (l.length : Int)) (.int .i64 0) = pure (.bool b) := fun b h => gtr_b 3 (l.length : Int) 0 b h
  rw [hs, hv] at ht
  subst ht
  clear hl hc fl fc hn hs hv
  unfold atomV rv at *
  generalize c.q = q at *
  obtain ⟨z, hz⟩ : ∃ z, decide (l.length = 0) = z := ⟨_, rfl⟩
  have e1 := hg (!z) (by rw [← hz]; by_cases h : l.length = 0 <;> simp [h]; omega)
  rw [hz]
  clear hg hz
  generalize l.length = n at *
  generalize c.xs.length = i1 at *
  generalize c.ys.length = i2 at *
  have hX := hide (C7.new (.int .i64 k) (.slice A n kc) (.bool c.s) (.slice c.A i1 c.a) (.slice c.B i2 c.b) (.int .i64 a) (.int .i64 b) 58 w)
  have hb0 := hide (bl_al (.refl _ _) (.cells #[.int .i64 k, .slice A n kc, .bool c.s, .slice c.A i1 c.a, .slice c.B i2 c.b, .int .i64 a, .int .i64 b] 58) : Below w.heap.size w _)
  obtain ⟨x0, x1, x2, x3, x4, x5, x6⟩ := hX.out
  rcases s with _ | _
  · clear hV hS e1
    go_enter Tryz.func38, Tryz.ntmps38
    go_wp2_with (first
      | (go_at_call 88; (with_reducible refine (hO.out _).mono ?_); rintro e w1 ⟨rfl, rfl⟩)
      | fail)
    go_ret2
    exact ⟨rfl, hb0.out⟩
  rcases z with _ | _
  · clear hV hS
    go_enter Tryz.func38, Tryz.ntmps38
    go_wp2_with (first
      | (go_at_call 88; (with_reducible refine (hO.out _).mono ?_); rintro e w1 ⟨rfl, rfl⟩)
      | fail)
    go_ret2
    exact ⟨rfl, hb0.out⟩
  have hV1 := hide (hV.out rfl)
  clear hV
  rcases v with _ | _
  · clear hS
    go_enter Tryz.func38, Tryz.ntmps38
    go_wp2_with (first
      | (go_at_call 88; (with_reducible refine (hO.out _).mono ?_); rintro e w1 ⟨rfl, rfl⟩)
      | (go_at_call 44; (with_reducible refine (hV1.out _ hb0.out).mono ?_); rintro e w2 ⟨rfl, hb2⟩; replace hb2 := hide (bl_trans hb0.out hb2))
      | fail)
    go_ret2
    exact ⟨rfl, hb2.out⟩
  · have hS1 := hide (hS.out rfl)
    clear hS
    go_enter Tryz.func38, Tryz.ntmps38
    go_wp2_with (first
      | (go_at_call 88; (with_reducible refine (hO.out _).mono ?_); rintro e w1 ⟨rfl, rfl⟩)
      | (go_at_call 44; (with_reducible refine (hV1.out _ hb0.out).mono ?_); rintro e w2 ⟨rfl, hb2⟩; clear x0 x1 x2 x3 x4 x5 x6; obtain ⟨x0, x1, x2, x3, x4, x5, x6⟩ := hX.out.next hb2; replace hb2 := hide (bl_trans hb0.out hb2))
      | (go_at_call 89; (with_reducible refine (hS1.out _ hb2.out).mono ?_); rintro e w3 ⟨rfl, hb3⟩; replace hb3 := hide (bl_trans hb2.out hb3))
      | fail)
    go_ret2
    exact ⟨rfl, hb3.out⟩

set_option maxHeartbeats 8000000 in
theorem holds_no (k : Int) (A : Option Addr) (l : List Pt) (kc : Nat) (c : Pt) (a b : Int) (F : FuncId) (cs : Array Value) (w : World) (hl : Pl w A l) (hc : c.At w) (fl : ∀ p ∈ l, p.Few) (fc : c.Few) (hn : l.length ≤ 1000) (ht : (sumK k && avB k l c a b) = false) :
    Calls Tryz.prog 40 #[atomV k A l.length kc c a b, .func (.func F) #[] cs] w fun e w' => e = .returned (.tuple #[.bool false, .int .i64 1]) ∧ Below w.heap.size w w' := by
  obtain ⟨s, hs⟩ : ∃ s, sumK k = s := ⟨_, rfl⟩
  have hO := hide (fun W => (show Calls Tryz.prog 88 #[.int .i64 k] W fun e w' => e = .returned (.bool s) ∧ w' = W from by have := ofsum_k k W; rwa [hs] at this))
  have hV := hide (fun (h : s = true) W (bl : Below w.heap.size w W) => valid_sum k (sumK_of (hs.trans h)) A l kc c a b W (hl.next bl) (hc.next bl) fl fc hn false (by
    rw [hs, h, Bool.true_and] at ht
    exact ht))
  clear hl hc fl fc hn hs ht
  unfold atomV at *
  generalize l.length = n at *
  generalize c.xs.length = i1 at *
  generalize c.ys.length = i2 at *
  have hX := hide (C7.new (.int .i64 k) (.slice A n kc) (.bool c.s) (.slice c.A i1 c.a) (.slice c.B i2 c.b) (.int .i64 a) (.int .i64 b) 58 w)
  have hb0 := hide (bl_al (.refl _ _) (.cells #[.int .i64 k, .slice A n kc, .bool c.s, .slice c.A i1 c.a, .slice c.B i2 c.b, .int .i64 a, .int .i64 b] 58) : Below w.heap.size w _)
  obtain ⟨x0, x1, x2, x3, x4, x5, x6⟩ := hX.out
  rcases s with _ | _
  · clear hV
    go_enter Tryz.func40, Tryz.ntmps40
    go_wp2_with (first
      | (go_at_call 88; (with_reducible refine (hO.out _).mono ?_); rintro e w1 ⟨rfl, rfl⟩)
      | fail)
    go_ret2
    exact ⟨rfl, hb0.out⟩
  · have hV1 := hide (hV.out rfl)
    clear hV
    go_enter Tryz.func40, Tryz.ntmps40
    go_wp2_with (first
      | (go_at_call 88; (with_reducible refine (hO.out _).mono ?_); rintro e w1 ⟨rfl, rfl⟩)
      | (go_at_call 44; (with_reducible refine (hV1.out _ hb0.out).mono ?_); rintro e w2 ⟨rfl, hb2⟩; replace hb2 := hide (bl_trans hb0.out hb2))
      | fail)
    go_ret2
    exact ⟨rfl, hb2.out⟩

def HoR (w : World) (k : Int) (o : Tells) (L : List (Rat × Int)) (q : Rat) (e : Ending) (w' : World) : Prop := Below w.heap.size w w' ∧ ((L.all (fun x => oOk o x.2) = true ∧ ∃ v, valF q (valL o L) = some v ∧ e = .returned (.tuple #[.bool (stB k v), .int .i64 0])) ∨ (L.all (fun x => oOk o x.2) = true ∧ valF q (valL o L) = none ∧ e = .returned (.tuple #[.bool false, .int .i64 4])) ∨ (L.all (fun x => oOk o x.2) = false ∧ e = .returned (.tuple #[.bool false, .int .i64 1])))
theorem VaR.cases {w : World} {o : Tells} {L : List (Rat × Int)} {q : Rat} {e : Ending} {w' : World} (h : VaR w o L q e w') :
    (∃ r : Pt, e = .returned (.tuple #[.agg #[.bool r.s, .slice r.A r.xs.length r.a, .slice r.B r.ys.length r.b], .int .i64 0]) ∧ L.all (fun x => oOk o x.2) = true ∧ valF q (valL o L) = some r.q ∧ r.Ok ∧ r.At w' ∧ Below w.heap.size w w')
    ∨ (e = .returned (.tuple #[.agg #[.bool false, .slice none 0 0, .slice none 0 0], .int .i64 4]) ∧ L.all (fun x => oOk o x.2) = true ∧ valF q (valL o L) = none ∧ Below w.heap.size w w')
    ∨ (e = .returned (.tuple #[.agg #[.bool false, .slice none 0 0, .slice none 0 0], .int .i64 1]) ∧ L.all (fun x => oOk o x.2) = false ∧ Below w.heap.size w w') := by
  unfold VaR at h
  rcases h with ⟨h1, h2⟩ | ⟨h1, h2⟩
  · rcases hv : valF q (valL o L) with _ | v
    · rw [hv] at h2
      obtain ⟨rfl, hb⟩ := h2
      exact .inr (.inl ⟨rfl, h1, rfl, hb⟩)
    · rw [hv] at h2
      obtain ⟨r, rfl, hq, _, ok, at_, hb⟩ := h2
      exact .inl ⟨r, rfl, h1, by rw [hq], ok, at_, hb⟩
  · obtain ⟨rfl, hb⟩ := h2
    exact .inr (.inr ⟨rfl, h1, hb⟩)

theorem ka0' (w : World) (X : Obj) : Below w.heap.size w (w.alloc X) := bl_al (.refl _ _) X
set_option maxHeartbeats 8000000 in
theorem holds_ok (k : Int) (A : Option Addr) (l : List Pt) (kc : Nat) (c : Pt) (F : FuncId) (cs : Array Value) (o : Tells) (w : World) (hl : Pl w A l) (hc : c.At w) (fl : ∀ p ∈ l, p.Ok) (fc : c.Ok) (hn : l.length ≤ 1000) (hk : sumK k = true) (hv : avB k l c 0 0 = true)
    (hT : ∀ p ∈ l, ∀ W, Below w.heap.size w W → Calls Tryz.prog 66 #[.func (.func F) #[] cs, .int .i64 p.t] W (TellO o p.t W)) :
    Calls Tryz.prog 40 #[atomV k A l.length kc c 0 0, .func (.func F) #[] cs] w (HoR w k o (l.map Pt.qt) c.q) := by
  have hO := hide (fun W => (show Calls Tryz.prog 88 #[.int .i64 k] W fun e w' => e = .returned (.bool true) ∧ w' = W from by have := ofsum_k k W; rwa [hk] at this))
  have hV := hide (fun W (bl : Below w.heap.size w W) => valid_sum k (sumK_of hk) A l kc c 0 0 W (hl.next bl) (hc.next bl) (fun p hp => (fl p hp).few) fc.few hn true hv)
  have hL := hide (fun W (bl : Below w.heap.size w W) => (value_ok A l kc c F cs o W (hl.next bl) (hc.next bl) fl fc (avB_ok hv).2.2.1 hn (fun p hp W' b' => hT p hp W' (bl_trans bl b'))).mono fun e w' h => h.cases)
  have hS := hide (fun (r : Pt) (ok : r.Ok) W (a : r.At W) => stands_p k ok W a)
  clear hl hc fl fc hn hv hT hk
  unfold atomV polyV HoR at *
  generalize l.length = n at *
  generalize c.xs.length = i1 at *
  generalize c.ys.length = i2 at *
  generalize l.map Pt.qt = L at *
  generalize c.q = q at *
  have hX := hide (C7.new (.int .i64 k) (.slice A n kc) (.bool c.s) (.slice c.A i1 c.a) (.slice c.B i2 c.b) (.int .i64 0) (.int .i64 0) 58 w)
  have hb0 := hide (bl_al (.refl _ _) (.cells #[.int .i64 k, .slice A n kc, .bool c.s, .slice c.A i1 c.a, .slice c.B i2 c.b, .int .i64 0, .int .i64 0] 58) : Below w.heap.size w _)
  obtain ⟨x0, x1, x2, x3, x4, x5, x6⟩ := hX.out
  go_enter Tryz.func40, Tryz.ntmps40
  go_wp2_with (first
    | (go_at_call 88; (with_reducible refine (hO.out _).mono ?_); rintro e w1 ⟨rfl, rfl⟩)
    | (go_at_call 44; (with_reducible refine (hV.out _ hb0.out).mono ?_); rintro e w2 ⟨rfl, hb2⟩; clear x0 x1 x2 x3 x4 x5 x6; have hX2 := hide (hX.out.next hb2); obtain ⟨x0, x1, x2, x3, x4, x5, x6⟩ := hX2.out; replace hb2 := hide (bl_trans hb0.out hb2))
    | (go_at_call 18; (with_reducible refine (hL.out _ hb2.out).mono ?_); rintro e w3 (⟨r, rfl, ha, hvv, hok, hat, hb3⟩ | ⟨rfl, ha, hvv, hb3⟩ | ⟨rfl, ha, hb3⟩)
        <;> first
          | (refine only hok ?_; have RV := hide (rb_new (q := r.q) rfl hok hat); have g := bl_al hb3 (.cells #[.bool r.s, .slice r.A r.xs.length r.a, .slice r.B r.ys.length r.b] 25); clear x0 x1 x2 x3 x4 x5 x6; obtain ⟨x0, x1, x2, x3, x4, x5, x6⟩ := hX2.out.next g; obtain ⟨y0, y1, y2⟩ := C3.of (Bk.new #[.bool r.s, .slice r.A r.xs.length r.a, .slice r.B r.ys.length r.b] 25 w3); have hSr := hide (hS.out r hok _ (hat.next (ka0' w3 (.cells #[.bool r.s, .slice r.A r.xs.length r.a, .slice r.B r.ys.length r.b] 25)))); unfold rv at hSr; replace g := hide (bl_trans hb2.out g); replace hvv := hide hvv; replace ha := hide ha; clear hb3)
          | (refine only hvv ?_; have g := hide (bl_trans hb2.out (bl_al hb3 (.cells #[.bool false, .slice none 0 0, .slice none 0 0] 25))); replace hvv := hide hvv; replace ha := hide ha; clear hb3)
          | (have g := hide (bl_trans hb2.out (bl_al hb3 (.cells #[.bool false, .slice none 0 0, .slice none 0 0] 25))); replace ha := hide ha; clear hb3)
          | fail)
    | (go_at_call 89; (with_reducible refine (hSr.out).mono ?_); rintro e w4 ⟨rfl, hb4⟩; replace hb4 := hide (bl_trans g.out hb4))
    | fail)
  all_goals
    first
      | (refine only hb4 ?_; go_ret2; exact ⟨hb4.out, .inl ⟨ha.out, _, hvv.out, rfl⟩⟩)
      | (refine only hvv ?_; go_ret2; exact ⟨g.out, .inr (.inl ⟨ha.out, hvv.out, rfl⟩)⟩)
      | (go_ret2; exact ⟨g.out, .inr (.inr ⟨ha.out, rfl⟩)⟩)
      | fail
end Nt

end Go.Proofs.YtgimmmmpollkhaaGreat

namespace Go.Proofs.YtgimmmmpollkhaaGreat

open Go.ChangeShapes Go.RowKit

namespace Nt
set_option maxRecDepth 100000
set_option linter.unusedSimpArgs false
set_option linter.unusedVariables false

def Nw (w : World) (k : Int) (A : Option Addr) (n kc : Nat) (c : Pt) (a b : Int) : World := (w.alloc (.cells #[.int .i64 k, .slice A n kc, .bool c.s, .slice c.A c.xs.length c.a, .slice c.B c.ys.length c.b, .int .i64 a, .int .i64 b] 58)).alloc (.cells zA 58)
theorem Nw.start (w : World) (k : Int) (A : Option Addr) (n kc : Nat) (c : Pt) (a b : Int) {W : World} (hb : Below (Nw w k A n kc c a b).heap.size (Nw w k A n kc c a b) W) : C7 w.heap.size (.int .i64 k) (.slice A n kc) (.bool c.s) (.slice c.A c.xs.length c.a) (.slice c.B c.ys.length c.b) (.int .i64 a) (.int .i64 b) W ∧ Bk (w.heap.size + 1) zA 58 W ∧ Below w.heap.size w W := by
  have h1 : Bk w.heap.size #[.int .i64 k, .slice A n kc, .bool c.s, .slice c.A c.xs.length c.a, .slice c.B c.ys.length c.b, .int .i64 a, .int .i64 b] 58 (Nw w k A n kc c a b) := (Bk.new _ _ w).al _
  have h2 : Bk (w.heap.size + 1) zA 58 (Nw w k A n kc c a b) := Bk.new1 _ _ w _
  exact ⟨(C7.of h1).next hb, h2.next hb, bl_trans (bl_al (bl_al (.refl _ _) _) _) hb⟩
theorem oppB_of {k : Int} (h : oppB k = true) : k = 1 ∨ k = 2 := of_decide_eq_true h

set_option maxHeartbeats 8000000 in
theorem not_no (k : Int) (A : Option Addr) (l : List Pt) (kc : Nat) (c : Pt) (a b : Int) (w : World) (hl : Pl w A l) (hc : c.At w) (fl : ∀ p ∈ l, p.Few) (fc : c.Few) (hn : l.length ≤ 1000) (ht : (oppB k && avB k l c a b) = false) :
    Calls Tryz.prog 36 #[atomV k A l.length kc c a b] w fun e w' => e = .returned (.tuple #[atomZ 0 0 0, .bool false]) ∧ Below w.heap.size w w' := by
  obtain ⟨s, hs⟩ : ∃ s, oppB k = s := ⟨_, rfl⟩
  have hO := hide (fun W => (show Calls Tryz.prog 86 #[.int .i64 k] W fun e w' => e = .returned (.tuple #[.int .i64 (oppK k), .bool s]) ∧ w' = W from by have := opposite_k k W; rwa [hs] at this))
  have hV := hide (fun (h : s = true) W (bl : Below w.heap.size w W) => valid_sum k (by rcases oppB_of (hs.trans h) with h | h <;> simp [h]) A l kc c a b W (hl.next bl) (hc.next bl) fl fc hn false (by
    rw [hs, h, Bool.true_and] at ht
    exact ht))
  have hst := hide (fun W (bl : Below (Nw w k A l.length kc c a b).heap.size (Nw w k A l.length kc c a b) W) => Nw.start w k A l.length kc c a b bl)
  have hb0 : Below w.heap.size w (Nw w k A l.length kc c a b) := bl_al (bl_al (.refl _ _) _) _
  have hbz := hide (hst.out _ (Below.refl _ _))
  clear hl hc fl fc hn hs ht
  unfold Nw at hst hb0 hbz
  unfold atomV atomZ zA at *
  generalize l.length = n at *
  generalize c.xs.length = i1 at *
  generalize c.ys.length = i2 at *
  generalize oppK k = kk at *
  replace hb0 := hide hb0
  have hfin := hide (fun W (b : Below w.heap.size w W) x0 x1 x2 x3 x4 x5 x6 => b.trans ((off7 (w.heap.size + 1) W x0 x1 x2 x3 x4 x5 x6).below b.size (fun b hb => by simp at hb; omega)))
  obtain ⟨⟨x0, x1, x2, x3, x4, x5, x6⟩, hR, _⟩ := hbz.out
  have r0 := hR.cell (j := 0) rfl
  have r1 := hR.cell (j := 1) rfl
  have r2 := hR.cell (j := 2) rfl
  have r3 := hR.cell (j := 3) rfl
  have r4 := hR.cell (j := 4) rfl
  have r5 := hR.cell (j := 5) rfl
  have r6 := hR.cell (j := 6) rfl
  have s0 := hR.free 0
  have s1 := hR.free 1
  have s2 := hR.free 2
  have s3 := hR.free 3
  have s4 := hR.free 4
  have s5 := hR.free 5
  have s6 := hR.free 6
  clear hR
  rcases s with _ | _
  · clear hV
    go_enter Tryz.func36, Tryz.ntmps36
    go_wp2_with (first
      | (go_at_call 86; (with_reducible refine (hO.out _).mono ?_); rintro e w1 ⟨rfl, rfl⟩)
      | fail)
    exact bodyPost_ret (v := .tuple #[.agg #[.int .i64 0, .slice none 0 0, .bool false, .slice none 0 0, .slice none 0 0, .int .i64 0, .int .i64 0], .bool false]) (by simp [results, Tryz.results36, go_sem, r0, r1, r2, r3, r4, r5, r6]) rfl ⟨rfl, hb0.out⟩
  · have hV1 := hide (hV.out rfl)
    clear hV
    go_enter Tryz.func36, Tryz.ntmps36
    go_wp2_with (first
      | (go_at_call 86; (with_reducible refine (hO.out _).mono ?_); rintro e w1 ⟨rfl, rfl⟩)
      | (go_at_call 44; (with_reducible refine (hV1.out _ hb0.out).mono ?_); rintro e w2 ⟨rfl, hb2⟩; clear x0 x1 x2 x3 x4 x5 x6 r0 r1 r2 r3 r4 r5 r6 s0 s1 s2 s3 s4 s5 s6; obtain ⟨_, hR, hbw⟩ := hst.out w2 hb2; replace hbw := hide hbw; have r0 := hR.cell (j := 0) rfl; have s0 := hR.free 0; have r1 := hR.cell (j := 1) rfl; have s1 := hR.free 1; have r2 := hR.cell (j := 2) rfl; have s2 := hR.free 2; have r3 := hR.cell (j := 3) rfl; have s3 := hR.free 3; have r4 := hR.cell (j := 4) rfl; have s4 := hR.free 4; have r5 := hR.cell (j := 5) rfl; have s5 := hR.free 5; have r6 := hR.cell (j := 6) rfl; have s6 := hR.free 6; clear hR hb2)
      | fail)
    exact bodyPost_ret (v := .tuple #[.agg #[.int .i64 0, .slice none 0 0, .bool false, .slice none 0 0, .slice none 0 0, .int .i64 0, .int .i64 0], .bool false]) (by simp [results, Tryz.results36, go_sem, r0, r1, r2, r3, r4, r5, r6]) rfl ⟨rfl, hfin.out _ hbw.out _ _ _ _ _ _ _⟩
end Nt

end Go.Proofs.YtgimmmmpollkhaaGreat

namespace Go.Proofs.YtgimmmmpollkhaaGreat

open Go.ChangeShapes Go.RowKit

namespace Nt
set_option maxRecDepth 100000
set_option linter.unusedSimpArgs false
set_option linter.unusedVariables false

def NtR (w : World) (kd : Int) (L : List (Rat × Int)) (q : Rat) (e : Ending) (w' : World) : Prop := ∃ A k l c, e = .returned (.tuple #[atomV kd A l.length k c 0 0, .bool true]) ∧ l.map Pt.qt = L ∧ c.q = q ∧ Pl w' A l ∧ c.At w' ∧ (∀ p ∈ l, p.Ok) ∧ c.Ok ∧ Below w.heap.size w w' ∧ l.length ≤ k ∧ k ≤ maxLen
theorem nt_done {w W : World} {kd : Int} {L : List (Rat × Int)} {q : Rat} {A : Option Addr} {k : Nat} {l : List Pt} {c : Pt} (hbw : Below w.heap.size w W) (hR : Bk (w.heap.size + 1) zA 58 W) (m : l.map Pt.qt = L) (hq : c.q = q) (hP : Pl W A l) (ha : c.At W) (ok : ∀ p ∈ l, p.Ok) (hc : c.Ok) (hy : l.length ≤ k) (hx : k ≤ maxLen) :
    NtR w kd L q (.returned (.tuple #[.agg #[.int .i64 kd, .slice A l.length k, .bool c.s, .slice c.A c.xs.length c.a, .slice c.B c.ys.length c.b, .int .i64 0, .int .i64 0], .bool true])) (((((((W.setCell ⟨w.heap.size + 1, 0, none⟩ (.int .i64 kd)).setCell ⟨w.heap.size + 1, 1, none⟩ (.slice A l.length k)).setCell ⟨w.heap.size + 1, 2, none⟩ (.bool c.s)).setCell ⟨w.heap.size + 1, 3, none⟩ (.slice c.A c.xs.length c.a)).setCell ⟨w.heap.size + 1, 4, none⟩ (.slice c.B c.ys.length c.b)).setCell ⟨w.heap.size + 1, 5, none⟩ (.int .i64 0)).setCell ⟨w.heap.size + 1, 6, none⟩ (.int .i64 0)) := by
  have hO := off7 (w.heap.size + 1) W (.int .i64 kd) (.slice A l.length k) (.bool c.s) (.slice c.A c.xs.length c.a) (.slice c.B c.ys.length c.b) (.int .i64 0) (.int .i64 0)
  exact ⟨A, k, l, c, rfl, m, hq, pl_offz hR zA_no zA_s hP ok hO, ⟨hR.sl zA_no ha.1 hO, hR.sl zA_no ha.2 hO⟩, ok, hc, hbw.trans (hO.below hbw.size (fun b hb => by simp at hb; omega)), hy, hx⟩

set_option maxHeartbeats 16000000 in
theorem not_ok (k : Int) (A : Option Addr) (l : List Pt) (kc : Nat) (c : Pt) (w : World) (hl : Pl w A l) (hc : c.At w) (fl : ∀ p ∈ l, p.Ok) (fc : c.Ok) (hn : l.length ≤ 1000) (hk : oppB k = true) (hv : avB k l c 0 0 = true) (hs : (l.map Pt.qt).all (fun x => fitB (x.1 * -1)) = true) (hs' : fitB (c.q * -1) = true) (hf : fmB (oppK k) (c.q * -1) (scq' (-1) (l.map Pt.qt)) = true) :
    Calls Tryz.prog 36 #[atomV k A l.length kc c 0 0] w (NtR w (oppK k) (fmL (oppK k) (scq' (-1) (l.map Pt.qt))) (fmQ (oppK k) (c.q * -1) (scq' (-1) (l.map Pt.qt)))) := by
  have hO := hide (fun W => (show Calls Tryz.prog 86 #[.int .i64 k] W fun e w' => e = .returned (.tuple #[.int .i64 (oppK k), .bool true]) ∧ w' = W from by have := opposite_k k W; rwa [hk] at this))
  have hV := hide (fun W (bl : Below w.heap.size w W) => valid_sum k (by rcases oppB_of hk with h | h <;> simp [h]) A l kc c 0 0 W (hl.next bl) (hc.next bl) (fun p hp => (fl p hp).few) fc.few hn true hv)
  have hst := hide (fun W (bl : Below (Nw w k A l.length kc c 0 0).heap.size (Nw w k A l.length kc c 0 0) W) => Nw.start w k A l.length kc c 0 0 bl)
  have hb0 : Below w.heap.size w (Nw w k A l.length kc c 0 0) := bl_al (bl_al (.refl _ _) _) _
  have hbz := hide (hst.out _ (Below.refl _ _))
  have Sc := hide (fun W (b : Below w.heap.size w W) (R : Pt) (Rk : R.Ok) (Ra : R.At W) (Rq : R.q = -1) => (show Calls Tryz.prog 14 #[polyV A l.length kc c, rv R] W (PR W (scq' (-1) (l.map Pt.qt)) (c.q * -1)) from by
    have h := lscale_ok A l kc c R W (hl.next b) fl (avB_ok hv).2.2.1 (hc.next b) fc Ra Rk hn
    rw [scaleL_q, scB_q, Rq, hs, hs'] at h
    exact h.mono fun e w' hS => by
      rcases hS with ⟨_, hS⟩ | ⟨hS, _⟩
      · exact hS
      · cases hS))
  have rL : rvB (-1) (scq' (-1) (l.map Pt.qt)) := rvB_scq' _ (by
    have h := (avB_ok hv).2.2.1
    rw [pvB_rvB fl] at h
    exact h)
  have lL : (scq' (-1) (l.map Pt.qt)).length ≤ 1000 := Nat.le_trans (scq'_len _ _) (by rw [List.length_map]; exact hn)
  have hkk : oppK k = 1 ∨ oppK k = 2 := by rcases oppB_of hk with h | h <;> simp [h, oppK]
  clear hl hc fl fc hn hs hs' hv hk
  unfold Nw at hst hb0 hbz
  unfold atomV polyV rv zA at *
  generalize l.length = n at *
  generalize c.xs.length = i1 at *
  generalize c.ys.length = i2 at *
  generalize oppK k = kk at *
  generalize scq' (-1) (l.map Pt.qt) = L2 at *
  generalize c.q * -1 = q2 at *
  have Mk := hide (fun (g : Nat) (A' : Option Addr) (n' k' : Nat) (l' : List Pt) (c' : Pt) (W : World) (HM : Pb L2 q2 g A' n' k' l' c' W) => (show Calls Tryz.prog 50 #[.int .i64 kk, .agg #[.slice A' n' k', .bool c'.s, .slice c'.A c'.xs.length c'.a, .slice c'.B c'.ys.length c'.b]] W (AtR W kk false (fmL kk L2) (fmQ kk q2 L2)) from by
    have h := make_ok kk A' l' k' c' W HM.pl HM.at_ HM.ok HM.ck (HM.v rL) (by rw [HM.len]; exact lL) (by omega) kk (by rw [if_neg (by omega)]) false (decide_eq_false (by omega))
    rw [HM.qt, HM.hq, hf] at h
    unfold polyV at h
    rw [← HM.hn] at h
    exact h.mono fun e w' hS => by
      rcases hS with ⟨_, hS⟩ | ⟨hS, _⟩
      · exact hS
      · cases hS))
  have hfin := hide (fun (W : World) (A' : Option Addr) (k' : Nat) (l' : List Pt) (c' : Pt) (b : Below w.heap.size w W) (hR : Bk (w.heap.size + 1) zA 58 W) (m : l'.map Pt.qt = fmL kk L2) (q : c'.q = fmQ kk q2 L2) (P : Pl W A' l') (a : c'.At W) (o : ∀ p ∈ l', p.Ok) (z : c'.Ok) (y : l'.length ≤ k') (x : k' ≤ maxLen) => nt_done (kd := kk) b hR m q P a o z y x)
  replace hb0 := hide hb0
  clear hf rL lL hkk
  generalize fmL kk L2 = L3 at *
  generalize fmQ kk q2 L2 = q3 at *
  obtain ⟨⟨x0, x1, x2, x3, x4, x5, x6⟩, _, _⟩ := hbz.out
  clear hbz
  have O1 := hide of_m1
  go_enter Tryz.func36, Tryz.ntmps36
  go_upto_region 4 with (first
    | (go_at_call 86; (with_reducible refine (hO.out _).mono ?_); rintro e w1 ⟨rfl, rfl⟩)
    | (go_at_call 44; (with_reducible refine (hV.out _ hb0.out).mono ?_); rintro e w2 ⟨rfl, hb2⟩; clear x0 x1 x2 x3 x4 x5 x6; obtain ⟨H7, R7, bw⟩ := hst.out w2 hb2; replace bw := hide bw; replace H7 := hide H7; replace R7 := hide R7; obtain ⟨x0, x1, x2, x3, x4, x5, x6⟩ := H7.out; clear hb2)
    | fail)
  clear hst hb0 hV hO
  have S2 := hide (fun W (b : Below w2.heap.size w2 W) => (show W.cell? ⟨w.heap.size, 1, none⟩ = some (.slice A n kc) ∧ W.cell? ⟨w.heap.size, 2, none⟩ = some (.bool c.s) ∧ W.cell? ⟨w.heap.size, 3, none⟩ = some (.slice c.A i1 c.a) ∧ W.cell? ⟨w.heap.size, 4, none⟩ = some (.slice c.B i2 c.b) from ⟨(H7.out.next b).2.1, (H7.out.next b).2.2.1, (H7.out.next b).2.2.2.1, (H7.out.next b).2.2.2.2.1⟩))
  go_cut [6, 7] (fun sa sb wx => ∃ (gs : Nat) (A : Option Addr) (k : Nat) (l : List Pt) (c : Pt), sa = .pointer (some ⟨gs, 0, none⟩) ∧ sb = .int .i64 0 ∧ Pb L2 q2 gs A l.length k l c wx ∧ Below w2.heap.size w2 wx)
  case first =>
    go_region_held3 (fun W => W.cell? ⟨w.heap.size, 1, none⟩ = some (.slice A n kc) ∧ W.cell? ⟨w.heap.size, 2, none⟩ = some (.bool c.s) ∧ W.cell? ⟨w.heap.size, 3, none⟩ = some (.slice c.A i1 c.a) ∧ W.cell? ⟨w.heap.size, 4, none⟩ = some (.slice c.B i2 c.b))
        (first
          | (with_reducible exact S2.out _ (ka0 w2))
          | (with_reducible exact S2.out _ (ka1 w2 _))
          | (with_reducible exact S2.out _ bc)
          | (with_reducible exact S2.out _ (bl_al bc _))
          | (with_reducible exact S2.out _ (bl_al (bl_al bc _) _))
          | (with_reducible exact S2.out _ bd)
          | (with_reducible exact S2.out _ (bl_al bd _))
          | (with_reducible exact S2.out _ (bl_al (bl_al bd _) _))
          | (with_reducible exact S2.out _ be)
          | (with_reducible exact S2.out _ (bl_al be _))
          | (with_reducible exact S2.out _ (be.trans ((off4 _ _ _ _ _ _).below be.size (fun b hb => by simp at hb; omega))))
          | (with_reducible exact S2.out _ (bd.trans ((off4 _ _ _ _ _ _).below bd.size (fun b hb => by simp at hb; omega))))
          | fail)
        (first
          | (go_at_call 62; (with_reducible refine (O1.out _).mono ?_); rintro e wa ⟨R, rfl, Rq, Rk, Ra, hb⟩; have bc : Below w2.heap.size w2 wa := (by first | (with_reducible exact bl_trans (ka0 w2) hb) | (with_reducible exact bl_trans (ka1 w2 _) hb)); have n1 := bc.size; have hCon := hide (fun W (b : Below wa.heap.size wa W) => Sc.out _ (bl_trans bw.out (bl_trans bc b)) R Rk (Ra.next b) Rq); (first | (have hZ : Hid (Bk w2.heap.size #[.slice none 0 0, .bool false, .slice none 0 0, .slice none 0 0] 27 wa) := by with_reducible exact hide (zd hb)) | skip))
          | (go_at_call 14; (with_reducible refine (hCon.out _ ?hw).mono ?_); (case hw => first | (with_reducible exact .refl _ _) | (with_reducible exact bl_al (.refl _ _) _) | fail); rintro e wd ⟨An_, kn_, ln_, cn_, rfl, mn_, vn_, pn_, tn_, on_, zn_, hb, wn_, yn_⟩; unfold polyV; have g2 : Below wa.heap.size wa wd := (by first | (with_reducible exact hb) | (with_reducible exact bl_one hb)); have be := bl_trans bc g2; have n3 := be.size; (first | (have hZ3 := hide (hZ.out.next g2)) | (have hZ3 : Hid (Bk wa.heap.size #[.slice none 0 0, .bool false, .slice none 0 0, .slice none 0 0] 27 wd) := by with_reducible exact hide (z1 hb)) | skip); (first | (have v0 := hZ3.out.cell (j := 0) rfl; have v1 := hZ3.out.cell (j := 1) rfl; have v2 := hZ3.out.cell (j := 2) rfl; have v3 := hZ3.out.cell (j := 3) rfl; have u0 := hZ3.out.free 0; have u1 := hZ3.out.free 1; have u2 := hZ3.out.free 2; have u3 := hZ3.out.free 3) | skip))
          | fail)
    all_goals
      go_wp2_with fail
      go_meet
      first
        | with_reducible refine ⟨wd.heap.size, An_, kn_, ln_, cn_, rfl, rfl, ?_⟩
          exact ⟨pb_new (k := kn_) mn_ vn_ pn_ tn_ on_ zn_ wn_ yn_, bl_al be _⟩
        | with_reducible refine ⟨_, An_, kn_, ln_, cn_, rfl, rfl, ?_⟩
          exact ⟨pb_set hZ3.out (k := kn_) mn_ vn_ pn_ tn_ on_ zn_ wn_ yn_, be.trans ((off4 _ _ _ _ _ _).below be.size (fun b hb => by simp at hb; omega))⟩
        | fail
  case rest =>
    obtain ⟨gm, Am, km, lm, cm, rfl, rfl, HM, bm⟩ := hcut
    replace H7 := trivial
    have R8 := hide (R7.out.next bm)
    have bw8 := bl_trans bw.out bm
    clear S2 R7 bw bm H7 x0 x1 x2 x3 x4 x5 x6 Sc O1
    replace HM := hide HM
    obtain ⟨y0, y1, y2, y3⟩ := HM.out.x
    go_wp2_with (first
      | (go_at_call 50; (with_reducible refine (Mk.out gm Am lm.length km lm cm _ HM.out).mono ?_); rintro e w3 ⟨A', k', l', c', rfl, m, hq, hP, ha, ok, hcok, hb3, hy, hx⟩; unfold atomV; have g := bl_al hb3 (.cells #[.int .i64 kk, .slice A' l'.length k', .bool c'.s, .slice c'.A c'.xs.length c'.a, .slice c'.B c'.ys.length c'.b, .int .i64 0, .int .i64 0] 58); have R9 := hide (R8.out.next g); have bw9 := hide (bl_trans bw8 g); have hP9 := hide (hP.next (ka0' w3 (.cells #[.int .i64 kk, .slice A' l'.length k', .bool c'.s, .slice c'.A c'.xs.length c'.a, .slice c'.B c'.ys.length c'.b, .int .i64 0, .int .i64 0] 58))); have ha9 := hide (ha.next (ka0' w3 (.cells #[.int .i64 kk, .slice A' l'.length k', .bool c'.s, .slice c'.A c'.xs.length c'.a, .slice c'.B c'.ys.length c'.b, .int .i64 0, .int .i64 0] 58))); obtain ⟨z0, z1, z2, z3, z4, z5, z6⟩ := C7.of (Bk.new #[.int .i64 kk, .slice A' l'.length k', .bool c'.s, .slice c'.A c'.xs.length c'.a, .slice c'.B c'.ys.length c'.b, .int .i64 0, .int .i64 0] 58 w3); have hR := R9.out; have r0 := hR.cell (j := 0) rfl; have s0 := hR.free 0; have r1 := hR.cell (j := 1) rfl; have s1 := hR.free 1; have r2 := hR.cell (j := 2) rfl; have s2 := hR.free 2; have r3 := hR.cell (j := 3) rfl; have s3 := hR.free 3; have r4 := hR.cell (j := 4) rfl; have s4 := hR.free 4; have r5 := hR.cell (j := 5) rfl; have s5 := hR.free 5; have r6 := hR.cell (j := 6) rfl; have s6 := hR.free 6; clear hR g hP ha hb3 y0 y1 y2 y3; replace m := hide m; replace hq := hide hq; replace ok := hide ok; replace hcok := hide hcok; replace hy := hide hy; replace hx := hide hx)
      | fail)
    exact bodyPost_ret (v := .tuple #[.agg #[.int .i64 kk, .slice A' l'.length k', .bool c'.s, .slice c'.A c'.xs.length c'.a, .slice c'.B c'.ys.length c'.b, .int .i64 0, .int .i64 0], .bool true]) (by simp [results, Tryz.results36, go_sem, r0, r1, r2, r3, r4, r5, r6]) rfl (hfin.out _ A' k' l' c' bw9.out R9.out m.out hq.out hP9.out ha9.out ok.out hcok.out hy.out hx.out)
end Nt

end Go.Proofs.YtgimmmmpollkhaaGreat

namespace Go.Proofs.YtgimmmmpollkhaaGreat

open Go.ChangeShapes Go.RowKit

namespace Nt
set_option maxRecDepth 100000
set_option linter.unusedSimpArgs false
set_option linter.unusedVariables false

theorem mul_m1 (q : Rat) : q * -1 = -q := by rw [Rat.mul_neg, Rat.mul_one]
theorem fit_mul_m1 {q : Rat} (f : fitq q) : fitB (q * -1) = true := by
  rw [mul_m1]
  exact fitB_t.2 (fitq_neg f)
theorem all_m1 {L : List (Rat × Int)} (f : ∀ x ∈ L, fitq x.1) : L.all (fun x => fitB (x.1 * -1)) = true := List.all_eq_true.2 fun x hx => fit_mul_m1 (f x hx)
theorem qt_fit {l : List Pt} (ok : ∀ p ∈ l, p.Ok) : ∀ x ∈ l.map Pt.qt, fitq x.1 := by
  intro x hx
  obtain ⟨p, hp, rfl⟩ := List.mem_map.1 hx
  exact (ok p hp).f
theorem absq_one {q : Rat} (h : absq q = 1) : q = 1 ∨ q = -1 := by
  unfold absq at h
  split at h
  · exact .inr (by rw [← h, Rat.neg_neg])
  · exact .inl h
theorem fby_m1 {k : Int} (hk : k = 1 ∨ k = 2) {q : Rat} (h : absq q = 1) : fby k (q * -1) = 1 := by
  unfold fby
  rw [if_neg (by omega)]
  rcases absq_one h with rfl | rfl
  · kernel_rfl
  · kernel_rfl
theorem scq_one (L : List (Rat × Int)) : scq' 1 L = L := by
  unfold scq' scq
  rw [if_neg (by decide)]
  have h : (fun x : Rat × Int => (x.1 * 1, x.2)) = id := by
    funext x
    show (x.1 * 1, x.2) = x
    rw [Rat.mul_one]
  rw [h, List.map_id]
theorem scq_m1 (L : List (Rat × Int)) : scq' (-1) L = scq (-1) L := by
  unfold scq'
  rw [if_neg (by decide)]
theorem not_form {k : Int} (hk : oppB k = true) {L : List (Rat × Int)} (q : Rat) (hf : formB k L = true) (f : ∀ x ∈ L, fitq x.1) (fq : fitq q) :
    fmB (oppK k) (q * -1) (scq' (-1) L) = true ∧ fmL (oppK k) (scq' (-1) L) = scq (-1) L ∧ (L ≠ [] → fmQ (oppK k) (q * -1) (scq' (-1) L) = q * -1) := by
  have hkk : oppK k = 1 ∨ oppK k = 2 := by rcases oppB_of hk with h | h <;> simp [h, oppK]
  have h3 : k ≠ 3 := by rcases oppB_of hk with h | h <;> omega
  rw [scq_m1]
  rcases L with _ | ⟨x, L⟩
  · exact ⟨rfl, rfl, fun h => absurd rfl h⟩
  have h1 : absq x.1 = 1 := by
    have h := of_decide_eq_true hf
    rwa [if_neg h3] at h
  have h2 := fby_m1 hkk h1
  have e : scq (-1) (x :: L) = (x.1 * -1, x.2) :: scq (-1) L := rfl
  have e1 : fmL (oppK k) (scq (-1) (x :: L)) = scq (-1) (x :: L) := by
    rw [e]
    show scq' (fby (oppK k) (x.1 * -1)) _ = _
    rw [h2, scq_one]
  refine ⟨?_, e1, fun _ => ?_⟩
  · rw [e]
    show (((x.1 * -1, x.2) :: scq (-1) L).all (fun y => fitB (y.1 * fby (oppK k) (x.1 * -1))) && fitB (q * -1 * fby (oppK k) (x.1 * -1))) = true
    rw [h2, Rat.mul_one, fit_mul_m1 fq, Bool.and_true, ← e]
    refine List.all_eq_true.2 fun y hy => ?_
    obtain ⟨z, hz, rfl⟩ := List.mem_map.1 hy
    show fitB (z.1 * -1 * 1) = true
    rw [Rat.mul_one]
    exact fit_mul_m1 (f z hz)
  · rw [e]
    show q * -1 * fby (oppK k) (x.1 * -1) = _
    rw [h2, Rat.mul_one]
end Nt

end Go.Proofs.YtgimmmmpollkhaaGreat

namespace Go.Proofs.YtgimmmmpollkhaaGreat

open Go.ChangeShapes Go.RowKit

namespace Nt
set_option maxRecDepth 100000
set_option linter.unusedSimpArgs false
set_option linter.unusedVariables false

theorem absq_mul {x k : Rat} (h : x * k ≠ 0) : absq (x * k) = absq x * absq k := by
  have h1 : qs (x * k) = (qs x != qs k) := by
    rw [qs_mul, decide_eq_true (Nat.pos_of_ne_zero fun e => h (qn_zero_iff.1 e)), Bool.and_true]
  unfold absq
  rw [h1]
  cases qs x <;> cases qs k
  · rfl
  · exact (Rat.mul_neg _ _).symm
  · exact (Rat.neg_mul _ _).symm
  · show x * k = -x * -k
    rw [Rat.neg_mul, Rat.mul_neg, Rat.neg_neg]
theorem absq_1 : absq 1 = 1 := by kernel_rfl
theorem absq_m1 : absq (-1) = 1 := by kernel_rfl
end Nt

end Go.Proofs.YtgimmmmpollkhaaGreat

namespace Go.Proofs.YtgimmmmpollkhaaGreat

open Go.ChangeShapes Go.RowKit

namespace Nt
set_option maxRecDepth 100000
set_option linter.unusedSimpArgs false
set_option linter.unusedVariables false

theorem neq_b (t : TypeId) (x y : Int) (b : Bool) (h : decide (x ≠ y) = b) : binOp .neq t (.int .i64 x) (.int .i64 y) = pure (.bool b) := by
  show pure (Value.bool (x != y)) = _
  rw [← h]
  congr 2
  by_cases e : x = y <;> simp [e]
set_option maxHeartbeats 8000000 in
theorem rsamep_p (A B : Option Addr) (kc kd : Nat) (l m : List Pt) (c d : Pt) (w : World) (hl : Pl w A l) (hm : Pl w B m) (fl : ∀ p ∈ l, p.Ok) (fm : ∀ p ∈ m, p.Ok) (hc : c.At w) (hd : d.At w) (fc : c.Ok) (fd : d.Ok) (nl : l.length ≤ 1000000) (nm : m.length ≤ 1000000) (r : Bool) (hr : (decide (l.map Pt.qt = m.map Pt.qt) && decide (c.q = d.q)) = r) :
    Calls Tryz.prog 23 #[polyV A l.length kc c, polyV B m.length kd d] w fun e w' => e = .returned (.bool r) ∧ Below w.heap.size w w' := by
  obtain ⟨b2, h2⟩ : ∃ b, decide (c.q = d.q) = b := ⟨_, rfl⟩
  have hS := hide (fun W (b : Below w.heap.size w W) => rsame_p fc fd W (hc.next b) (hd.next b) b2 h2)
  have hT := hide (fun (p r : Pt) (hp : p ∈ l) (hr : r ∈ m) W (a : p.At W) (a' : r.At W) b h => rsame_p (fl p hp) (fm r hr) W a a' b h)
  have hP := hide (fun W (b : Below w.heap.size w W) => hl.next b)
  have hQ := hide (fun W (b : Below w.heap.size w W) => hm.next b)
  rw [h2] at hr
  clear hc hd fc fd h2 hl hm fl fm
  unfold polyV rv at *
  obtain ⟨n, hnn⟩ : ∃ n, n = l.length := ⟨_, rfl⟩
  obtain ⟨k, hkk⟩ : ∃ k, k = m.length := ⟨_, rfl⟩
  rw [← hnn, ← hkk]
  rw [← hnn] at nl
  rw [← hkk] at nm
  replace hnn := hide hnn
  replace hkk := hide hkk
  have hX := hide ((C4.new (.slice A n kc) (.bool c.s) (.slice c.A c.xs.length c.a) (.slice c.B c.ys.length c.b) 27 w).next (bl_al (.refl _ _) (.cells #[.slice B k kd, .bool d.s, .slice d.A d.xs.length d.a, .slice d.B d.ys.length d.b] 27)))
  have hY := hide (C4.of (Bk.new1 #[.slice B k kd, .bool d.s, .slice d.A d.xs.length d.a, .slice d.B d.ys.length d.b] 27 w (.cells #[.slice A n kc, .bool c.s, .slice c.A c.xs.length c.a, .slice c.B c.ys.length c.b] 27)))
  have hb0 := hide (bl_al (bl_al (.refl _ _) (.cells #[.slice A n kc, .bool c.s, .slice c.A c.xs.length c.a, .slice c.B c.ys.length c.b] 27)) (.cells #[.slice B k kd, .bool d.s, .slice d.A d.xs.length d.a, .slice d.B d.ys.length d.b] 27) : Below w.heap.size w _)
  generalize c.xs.length = i1 at *
  generalize c.ys.length = i2 at *
  generalize d.xs.length = i3 at *
  generalize d.ys.length = i4 at *
  obtain ⟨x0, x1, x2, x3⟩ := hX.out
  obtain ⟨y0, y1, y2, y3⟩ := hY.out
  by_cases hnk : n = k
  · subst hnk
    rcases b2 with _ | _
    · rw [Bool.and_false] at hr
      subst hr
      clear hX hY
      go_enter Tryz.func23, Tryz.ntmps23
      go_wp2_with (first
        | (go_at_call 24; (with_reducible refine (hS.out _ hb0.out).mono ?_); rintro e wa ⟨rfl, hb3⟩; replace hb3 := hide (bl_trans hb0.out hb3))
        | fail)
      go_ret
      exact ⟨rfl, hb3.out⟩
    · rw [Bool.and_true] at hr
      go_enter Tryz.func23, Tryz.ntmps23
      go_wp2_with (first
        | (go_at_call 24; (with_reducible refine (hS.out _ hb0.out).mono ?_); rintro e wa ⟨rfl, hb3⟩; clear x0 x1 x2 x3 y0 y1 y2 y3; have hX3 := hide (hX.out.next hb3); have hY3 := hide (hY.out.next hb3); replace hb3 := hide (bl_trans hb0.out hb3))
        | fail)
      clear hX hY hb0 hS
      go_loopw [5] (fun ix wr => ∃ i : Nat, i ≤ n ∧ ix = .int .i64 (i : Int) ∧ Below w.heap.size w wr ∧ C4 w.heap.size (.slice A n kc) (.bool c.s) (.slice c.A i1 c.a) (.slice c.B i2 c.b) wr ∧ C4 (w.heap.size + 1) (.slice B n kd) (.bool d.s) (.slice d.A i3 d.a) (.slice d.B i4 d.b) wr ∧ (l.take i).map Pt.qt = (m.take i).map Pt.qt) (fun ix _ => n - (intOf ix).toNat)
      case atStart => exact ⟨0, Nat.zero_le _, rfl, hb3.out, hX3.out, hY3.out, rfl⟩
      case round =>
        obtain ⟨i, hi, rfl, hbw, hCw, hDw, htk⟩ := hrel
        by_cases hlt : i < n
        · have h1 : i < l.length := by rw [← hnn.out]; exact hlt
          have h2 : i < m.length := by rw [← hkk.out]; exact hlt
          have hiff := qt_at h1 h2 htk
          obtain ⟨g1, o1, rfl, ⟨p0, p1, p2, p3⟩, a1⟩ := (hP.out wr hbw).get h1
          obtain ⟨g2, o2, rfl, ⟨r0, r1, r2, r3⟩, a2⟩ := (hQ.out wr hbw).get h2
          obtain ⟨bt, ht⟩ : ∃ b, decide (l[i].t ≠ m[i].t) = b := ⟨_, rfl⟩
          obtain ⟨bq, hq⟩ : ∃ b, decide (l[i].q = m[i].q) = b := ⟨_, rfl⟩
          have e1 := neq_b 3 l[i].t m[i].t bt ht
          have hqq : bt = false → bq = true → l[i].qt = m[i].qt := fun h h' => by
            rw [h] at ht
            rw [h'] at hq
            have h3 := of_decide_eq_true hq
            have h4 : l[i].t = m[i].t := by simpa using ht
            show (l[i].q, l[i].t) = (m[i].q, m[i].t)
            rw [h3, h4]
          have hnq : bt = true ∨ bq = false → l.map Pt.qt ≠ m.map Pt.qt := fun h e => by
            have h5 : l[i].qt = m[i].qt := hiff.1 (by rw [List.map_take, List.map_take, e])
            have h6 : l[i].q = m[i].q := congrArg Prod.fst h5
            have h7 : l[i].t = m[i].t := congrArg Prod.snd h5
            rcases h with h | h
            · rw [h] at ht
              exact of_decide_eq_true ht h7
            · rw [h] at hq
              exact of_decide_eq_false hq h6
          have hSm := hide (fun W (b : Below wr.heap.size wr W) => hT.out l[i] m[i] (List.getElem_mem h1) (List.getElem_mem h2) W (a1.next b) (a2.next b) bq hq)
          have hiff := hide (fun (h : bt = false ∧ bq = true) => hiff.2 (hqq h.1 h.2))
          replace hnq := hide hnq
          clear hqq hq ht htk a1 a2 hP hQ hT
          generalize l[i] = p at *
          generalize m[i] = q at *
          generalize p.xs.length = j1 at *
          generalize p.ys.length = j2 at *
          generalize q.xs.length = j3 at *
          generalize q.ys.length = j4 at *
          have hlt' : (i : Int) < (n : Int) := by omega
          have hSf := hide (fun W (b : Below wr.heap.size wr W) => (show (W.cell? ⟨w.heap.size, 0, none⟩ = some (.slice (some ⟨g1, o1, none⟩) n kc) ∧ W.cell? ⟨w.heap.size + 1, 0, none⟩ = some (.slice (some ⟨g2, o2, none⟩) n kd)) ∧ (W.cell? ⟨g1, o1 + i * 4, none⟩ = some (.bool p.s) ∧ W.cell? ⟨g1, o1 + i * 4 + 1, none⟩ = some (.slice p.A j1 p.a) ∧ W.cell? ⟨g1, o1 + i * 4 + 2, none⟩ = some (.slice p.B j2 p.b) ∧ W.cell? ⟨g1, o1 + i * 4 + 3, none⟩ = some (.int .i64 p.t)) ∧ (W.cell? ⟨g2, o2 + i * 4, none⟩ = some (.bool q.s) ∧ W.cell? ⟨g2, o2 + i * 4 + 1, none⟩ = some (.slice q.A j3 q.a) ∧ W.cell? ⟨g2, o2 + i * 4 + 2, none⟩ = some (.slice q.B j4 q.b) ∧ W.cell? ⟨g2, o2 + i * 4 + 3, none⟩ = some (.int .i64 q.t)) from
            ⟨⟨cell_next b hCw.1, cell_next b hDw.1⟩, ⟨cell_next b p0, cell_next b p1, cell_next b p2, cell_next b p3⟩, ⟨cell_next b r0, cell_next b r1, cell_next b r2, cell_next b r3⟩⟩))
          have hCw2 := hide (fun W (b : Below wr.heap.size wr W) => And.intro (hCw.next b) (hDw.next b))
          obtain ⟨x0, x1, x2, x3⟩ := hCw
          obtain ⟨y0, y1, y2, y3⟩ := hDw
          rcases bt with _ | _
          · have hn2 := hide (fun (h : bq = false) => hnq.out (.inr h))
            have hi2 := hide (fun (h : bq = true) => hiff.out ⟨rfl, h⟩)
            clear hnq hiff
            go_wp2_with fail
            have bc := ka0 wr
            go_region_held3 (fun W => (W.cell? ⟨w.heap.size, 0, none⟩ = some (.slice (some ⟨g1, o1, none⟩) n kc) ∧ W.cell? ⟨w.heap.size + 1, 0, none⟩ = some (.slice (some ⟨g2, o2, none⟩) n kd)) ∧ (W.cell? ⟨g1, o1 + i * 4, none⟩ = some (.bool p.s) ∧ W.cell? ⟨g1, o1 + i * 4 + 1, none⟩ = some (.slice p.A j1 p.a) ∧ W.cell? ⟨g1, o1 + i * 4 + 2, none⟩ = some (.slice p.B j2 p.b) ∧ W.cell? ⟨g1, o1 + i * 4 + 3, none⟩ = some (.int .i64 p.t)) ∧ (W.cell? ⟨g2, o2 + i * 4, none⟩ = some (.bool q.s) ∧ W.cell? ⟨g2, o2 + i * 4 + 1, none⟩ = some (.slice q.A j3 q.a) ∧ W.cell? ⟨g2, o2 + i * 4 + 2, none⟩ = some (.slice q.B j4 q.b) ∧ W.cell? ⟨g2, o2 + i * 4 + 3, none⟩ = some (.int .i64 q.t)))
              (first | (with_reducible exact hSf.out _ bc) | fail)
              (first
                | (go_at_call 24; (with_reducible refine (hSm.out _ bc).mono ?_); rintro e wz ⟨rfl, hb⟩; replace bc := bl_trans bc hb; clear hb)
                | fail)
            all_goals
              clear x0 x1 x2 x3 y0 y1 y2 y3 p0 p1 p2 p3 r0 r1 r2 r3
              rcases bq with _ | _
              · rw [decide_eq_false (hn2.out rfl)] at hr
                subst hr
                clear hn2 hi2
                go_wp2_with fail
                go_ret
                exact ⟨rfl, bl_trans hbw bc⟩
              · have hi3 := hide (hi2.out rfl)
                clear hn2 hi2
                go_wp2_with fail
                go_roundw
                case rel => exact ⟨i + 1, hlt, by go_num, bl_trans hbw bc, (hCw2.out _ bc).1, (hCw2.out _ bc).2, hi3.out⟩
                case measure => simp only [intOf]; omega
          · rw [decide_eq_false (hnq.out (.inl rfl))] at hr
            subst hr
            clear hSm hSf hiff hnq hCw2
            go_wp2_with fail
            have bc := hide (ka0 wr)
            go_quiet (fail)
            go_wp2_with fail
            go_ret
            exact ⟨rfl, bl_trans hbw (((Off.refl [] wr).drewN _).below (Nat.le_refl _) (by simp))⟩
        · have hin : i = n := by omega
          subst hin
          rw [hnn.out, List.take_length, ← hnn.out, hkk.out, List.take_length] at htk
          have hd : decide (l.map Pt.qt = m.map Pt.qt) = true := decide_eq_true htk
          rw [hd] at hr
          subst hr
          clear htk hd
          obtain ⟨x0, x1, x2, x3⟩ := hCw
          obtain ⟨y0, y1, y2, y3⟩ := hDw
          go_wp2_with fail
          go_ret
          exact ⟨rfl, hbw⟩
  · have e1 := neq_b 3 (n : Int) (k : Int) true (decide_eq_true (by omega))
    have q1 : ((n : Int) != (k : Int)) = true := by simp; omega
    have hne : ¬ l.map Pt.qt = m.map Pt.qt := fun e => hnk (by have := congrArg List.length e; rw [List.length_map, List.length_map] at this; rw [hnn.out, hkk.out]; exact this)
    rw [decide_eq_false hne] at hr
    subst hr
    clear hX hY hS hne hnk
    go_enter Tryz.func23, Tryz.ntmps23
    go_wp2_with fail
    go_ret
    exact ⟨rfl, hb0.out⟩
end Nt

end Go.Proofs.YtgimmmmpollkhaaGreat

namespace Go.Proofs.YtgimmmmpollkhaaGreat

open Go.ChangeShapes Go.RowKit

namespace Nt
set_option maxRecDepth 100000
set_option linter.unusedSimpArgs false
set_option linter.unusedVariables false

theorem few_o {p : Pt} (h : Limbs p.xs ∧ Limbs p.ys) (f : p.few8 = true) : p.Few := by
  have := of_decide_eq_true f
  exact ⟨h.1, h.2, by omega, by omega⟩
theorem bnd_o {p : Pt} (h : p.Ok) (f : p.few8 = true) : bnd 8 p.q := by
  have := of_decide_eq_true f
  rw [h.x, h.y] at this
  exact ⟨lt_of_ln this.1, lt_of_ln this.2⟩
theorem small_o {l : List Pt} (h : ∀ p ∈ l, p.Ok) (f : ∀ p ∈ l, p.few8 = true) : small 8 (l.map Pt.qt) := by
  intro x hx
  obtain ⟨p, hp, rfl⟩ := List.mem_map.1 hx
  exact bnd_o (h p hp) (f p hp)
def Mf (k : Int) (L : List (Rat × Int)) (q : Rat) : Prop := formB k L = true ∧ (L = [] → q = -1 ∨ q = 0 ∨ q = 1)
theorem mf_not {k : Int} (hk : oppB k = true) {L : List (Rat × Int)} {q : Rat} (h : Mf k L q) (f : ∀ x ∈ L, fitq x.1) (fq : fitq q) :
    fmB (oppK k) (q * -1) (scq' (-1) L) = true ∧ fmL (oppK k) (scq' (-1) L) = scq (-1) L ∧ fmQ (oppK k) (q * -1) (scq' (-1) L) = q * -1 ∧ Mf (oppK k) (scq (-1) L) (q * -1) := by
  obtain ⟨h1, h2, h3⟩ := not_form hk q h.1 f fq
  have h3k : k ≠ 3 := by rcases oppB_of hk with h | h <;> omega
  have h3o : oppK k ≠ 3 := by rcases oppB_of hk with rfl | rfl <;> decide
  refine ⟨h1, h2, ?_, ?_, ?_⟩
  · by_cases hL : L = []
    · subst hL
      rcases h.2 rfl with rfl | rfl | rfl <;> kernel_rfl
    · exact h3 hL
  · rcases L with _ | ⟨x, L⟩
    · rfl
    have h4 : absq x.1 = 1 := by
      have h := of_decide_eq_true h.1
      rwa [if_neg h3k] at h
    show decide ((if oppK k = 3 then x.1 * -1 else absq (x.1 * -1)) = 1) = true
    rw [if_neg h3o]
    rcases absq_one h4 with e | e
    · rw [e]; exact decide_eq_true (by kernel_rfl)
    · rw [e]; exact decide_eq_true (by kernel_rfl)
  · intro e
    have hL : L = [] := by
      rcases L with _ | ⟨x, L⟩
      · rfl
      · cases e
    rcases h.2 hL with rfl | rfl | rfl
    · exact .inr (.inr (by kernel_rfl))
    · exact .inr (.inl (by kernel_rfl))
    · exact .inl (by kernel_rfl)
end Nt

end Go.Proofs.YtgimmmmpollkhaaGreat

namespace Go.Proofs.YtgimmmmpollkhaaGreat

open Go.ChangeShapes Go.RowKit

namespace Nt
set_option maxRecDepth 100000
set_option linter.unusedSimpArgs false
set_option linter.unusedVariables false

structure Ab (kd : Int) (L : List (Rat × Int)) (q : Rat) (g : Nat) (A : Option Addr) (n k : Nat) (l : List Pt) (c : Pt) (W : World) : Prop where
  hn : n = l.length
  qt : l.map Pt.qt = L
  hq : c.q = q
  pl : Pl W A l
  at_ : c.At W
  ok : ∀ p ∈ l, p.Ok
  ck : c.Ok
  lk : l.length ≤ k
  lm : k ≤ maxLen
  x : C7 g (.int .i64 kd) (.slice A n k) (.bool c.s) (.slice c.A c.xs.length c.a) (.slice c.B c.ys.length c.b) (.int .i64 0) (.int .i64 0) W
section

variable {kd kd' : Int} {L M : List (Rat × Int)} {q r : Rat} {g g' : Nat} {A B : Option Addr} {n k n' k' : Nat} {l m : List Pt} {c d : Pt} {W W' : World}
theorem Ab.next (h : Ab kd L q g A n k l c W) (hb : Below W.heap.size W W') : Ab kd L q g A n k l c W' :=
  ⟨h.hn, h.qt, h.hq, h.pl.next hb, h.at_.next hb, h.ok, h.ck, h.lk, h.lm, h.x.next hb⟩
theorem ab_new (qt : l.map Pt.qt = L) (hq : c.q = q) (pl : Pl W A l) (a : c.At W) (ok : ∀ p ∈ l, p.Ok) (ck : c.Ok) (lk : l.length ≤ k) (lm : k ≤ maxLen) :
    Ab kd L q W.heap.size A l.length k l c (W.alloc (.cells #[.int .i64 kd, .slice A l.length k, .bool c.s, .slice c.A c.xs.length c.a, .slice c.B c.ys.length c.b, .int .i64 0, .int .i64 0] 58)) :=
  ⟨rfl, qt, hq, pl.next (bl_al (.refl _ _) _), a.next (bl_al (.refl _ _) _), ok, ck, lk, lm, C7.new _ _ _ _ _ _ _ _ _⟩
theorem Ab.v (h : Ab kd L q g A n k l c W) (hv : rvB (-1) L) : pvB (-1) l = true := (pvB_rvB h.ok (-1)).2 (by rw [h.qt]; exact hv)
theorem Ab.len (h : Ab kd L q g A n k l c W) : l.length = L.length := by rw [← h.qt, List.length_map]
theorem Ab.fits (h : Ab kd L q g A n k l c W) : (∀ x ∈ L, fitq x.1) ∧ fitq q := ⟨by rw [← h.qt]; exact qt_fit h.ok, by rw [← h.hq]; exact h.ck.f⟩
theorem ab_av (h : Ab kd L q g A n k l c W) (hv : rvB (-1) L) : avB kd l c 0 0 = formB kd L := by
  unfold avB
  rw [h.v hv, h.ck.valid, h.qt]
  simp
theorem ab_valid (h : Ab kd L q g A n k l c W) (hk : kd = 1 ∨ kd = 2 ∨ kd = 3) (hv : rvB (-1) L) (hl : L.length ≤ 1000) (b : Bool) (hb : formB kd L = b) :
    Calls Tryz.prog 44 #[.agg #[.int .i64 kd, .slice A n k, .bool c.s, .slice c.A c.xs.length c.a, .slice c.B c.ys.length c.b, .int .i64 0, .int .i64 0]] W fun e w' => e = .returned (.bool b) ∧ Below W.heap.size W w' := by
  have h1 := h.hn
  subst h1
  exact valid_sum kd hk A l k c 0 0 W h.pl h.at_ (fun p hp => (h.ok p hp).few) h.ck.few (by rw [h.len]; exact hl) b (by have := ab_av h hv; rw [hb] at this; exact this)
theorem ab_same (h : Ab kd L q g A n k l c W) (h' : Ab kd' M r g' B n' k' m d W) (hl : L.length ≤ 1000) (hm : M.length ≤ 1000) (b : Bool) (hb : (decide (kd = kd') && (decide (L = M) && decide (q = r))) = b) :
    Calls Tryz.prog 47 #[.agg #[.int .i64 kd, .slice A n k, .bool c.s, .slice c.A c.xs.length c.a, .slice c.B c.ys.length c.b, .int .i64 0, .int .i64 0], .agg #[.int .i64 kd', .slice B n' k', .bool d.s, .slice d.A d.xs.length d.a, .slice d.B d.ys.length d.b, .int .i64 0, .int .i64 0]] W fun e w' => e = .returned (.bool b) ∧ Below W.heap.size W w' := by
  have h1 := h.hn
  have h2 := h'.hn
  subst h1
  subst h2
  exact asame_p kd kd' A B l m k k' c d 0 0 0 0 W h.pl h'.pl h.ok h'.ok h.at_ h'.at_ h.ck h'.ck (by rw [h.len]; omega) (by rw [h'.len]; omega) b (by rw [h.qt, h'.qt, h.hq, h'.hq, ← hb]; simp)
theorem ab_not (h : Ab kd L q g A n k l c W) (hk : oppB kd = true) (hv : rvB (-1) L) (hl : L.length ≤ 1000) (hm : Mf kd L q) :
    Calls Tryz.prog 36 #[.agg #[.int .i64 kd, .slice A n k, .bool c.s, .slice c.A c.xs.length c.a, .slice c.B c.ys.length c.b, .int .i64 0, .int .i64 0]] W (NtR W (oppK kd) (scq (-1) L) (q * -1)) := by
  have h1 := h.hn
  subst h1
  obtain ⟨m1, m2, m3, _⟩ := mf_not hk hm h.fits.1 h.fits.2
  have := not_ok kd A l k c W h.pl h.at_ h.ok h.ck (by rw [h.len]; exact hl) hk (by rw [ab_av h hv]; exact hm.1) (by rw [h.qt]; exact all_m1 h.fits.1) (by rw [h.hq]; exact fit_mul_m1 h.fits.2) (by rw [h.qt, h.hq]; exact m1)
  rw [h.qt, h.hq, m2, m3] at this
  exact this
theorem ab_holds (h : Ab kd L q g A n k l c W) (hk : sumK kd = true) (hv : rvB (-1) L) (hl : L.length ≤ 1000) (hf : formB kd L = true) (F : FuncId) (cs : Array Value) (o : Tells)
    (hT : ∀ t, (∃ x ∈ L, x.2 = t) → ∀ W', Below W.heap.size W W' → Calls Tryz.prog 66 #[.func (.func F) #[] cs, .int .i64 t] W' (TellO o t W')) :
    Calls Tryz.prog 40 #[.agg #[.int .i64 kd, .slice A n k, .bool c.s, .slice c.A c.xs.length c.a, .slice c.B c.ys.length c.b, .int .i64 0, .int .i64 0], .func (.func F) #[] cs] W (HoR W kd o L q) := by
  have h1 := h.hn
  subst h1
  have := holds_ok kd A l k c F cs o W h.pl h.at_ h.ok h.ck (by rw [h.len]; exact hl) hk (by rw [ab_av h hv]; exact hf) (fun p hp => hT p.t ⟨p.qt, by rw [← h.qt]; exact List.mem_map_of_mem hp, rfl⟩)
  rw [h.qt, h.hq] at this
  exact this
theorem ab_trivial (h : Ab kd L q g A n k l c W) (hk : sumK kd = true) (hv : rvB (-1) L) (hl : L.length ≤ 1000) (hf : formB kd L = true) (b v : Bool) (hb : decide (L.length = 0) = b) (hvv : (b && stB kd q) = v) :
    Calls Tryz.prog 38 #[.agg #[.int .i64 kd, .slice A n k, .bool c.s, .slice c.A c.xs.length c.a, .slice c.B c.ys.length c.b, .int .i64 0, .int .i64 0]] W fun e w' => e = .returned (.tuple #[.bool v, .bool b]) ∧ Below W.heap.size W w' := by
  have h1 := h.hn
  subst h1
  have := trivial_k kd A l k c 0 0 W h.pl h.at_ (fun p hp => (h.ok p hp).few) h.ck.few (by rw [h.len]; exact hl) b (by rw [ab_av h hv, hf, hk, h.len, hb]; simp)
  rw [h.hq, hvv] at this
  exact this
end
theorem amake_p (kind : Int) {L : List (Rat × Int)} {q : Rat} {A : Option Addr} {n k : Nat} {l : List Pt} {c : Pt} {W : World} (hn : n = l.length) (qt : l.map Pt.qt = L) (hq : c.q = q) (pl : Pl W A l) (at_ : c.At W) (ok : ∀ p ∈ l, p.Ok) (ck : c.Ok) (hk : kind = 1 ∨ kind = 2 ∨ kind = 3 ∨ kind = 4) (kd : Int) (hkd : (if kind = 4 then 3 else kind) = kd) (nt : Bool) (hnt : decide (kind = 4) = nt)
    (hv : rvB (-1) L) (hl : L.length ≤ 1000) (hf : fmB kd q L = true) {M : List (Rat × Int)} {r : Rat} (hM : fmL kd L = M) (hr : fmQ kd q L = r) :
    Calls Tryz.prog 50 #[.int .i64 kind, .agg #[.slice A n k, .bool c.s, .slice c.A c.xs.length c.a, .slice c.B c.ys.length c.b]] W (AtR W kd nt M r) := by
  subst hn
  have hlen : l.length = L.length := by rw [← qt, List.length_map]
  have := make_ok kind A l k c W pl at_ ok ck ((pvB_rvB ok (-1)).2 (by rw [qt]; exact hv)) (by rw [hlen]; exact hl) hk kd hkd nt hnt
  rw [qt, hq, hM, hr, hf] at this
  exact this.mono fun e w' h => by
    rcases h with ⟨_, h⟩ | ⟨h, _⟩
    · exact h
    · cases h
def SumR (w : World) (L : List (Rat × Int)) (r : Rat) (e : Ending) (w' : World) : Prop := ∃ (A : Option Addr) (k : Nat) (l : List Pt) (c : Pt), e = .returned (.agg #[.slice A l.length k, .bool c.s, .slice c.A c.xs.length c.a, .slice c.B c.ys.length c.b]) ∧ l.map Pt.qt = L ∧ c.q = r ∧ Pl w' A l ∧ c.At w' ∧ (∀ p ∈ l, p.Ok) ∧ c.Ok ∧ Below w.heap.size w w' ∧ l.length ≤ k ∧ k ≤ maxLen
theorem sum9_p (n k : Int) (q r : Rat) (w : World) (n1 : -9223372036854775808 ≤ n) (n2 : n ≤ 9223372036854775807) (k1 : -9223372036854775808 ≤ k) (k2 : k ≤ 9223372036854775807) (hq : qmk (isg n != isg 1) n.natAbs (1 : Int).natAbs = q) (hr : qmk (isg k != isg 1) k.natAbs (1 : Int).natAbs = r) (fq : fitq q) (fr : fitq r) :
    Calls Tryz.prog 82 #[.int .i64 n, .int .i64 k] w (SumR w [(q, 3)] r) := by
  have hN := hide (fun W => rof_p n 1 q W n1 n2 (by decide) (by decide) (by decide) hq fq)
  have hK := hide (fun W => rof_p k 1 r W k1 k2 (by decide) (by decide) (by decide) hr fr)
  have hB : Bk w.heap.size zP 27 (w.alloc (.cells zP 27)) := Bk.new _ _ _
  have hb0 := hide (bl_al (.refl _ _) (.cells zP 27) : Below w.heap.size w (w.alloc (.cells zP 27)))
  have hfin := hide (fun W G (p c : Pt) (hb : Below w.heap.size w W) (hB : Bk w.heap.size zP 27 W) (hG : Bk G (pcs [p.as 3]).toArray 83 W) (hp : p.Ok) (ap : p.At W) (hc : c.Ok) (ac : c.At W) (eq : p.q = q) (er : c.q = r) =>
    (show SumR w [(q, 3)] r (.returned (.agg #[.slice (some ⟨G, 0, none⟩) 1 1, .bool c.s, .slice c.A c.xs.length c.a, .slice c.B c.ys.length c.b])) ((((W.setCell ⟨w.heap.size, 0, none⟩ (.slice (some ⟨G, 0, none⟩) 1 1)).setCell ⟨w.heap.size, 1, none⟩ (.bool c.s)).setCell ⟨w.heap.size, 2, none⟩ (.slice c.A c.xs.length c.a)).setCell ⟨w.heap.size, 3, none⟩ (.slice c.B c.ys.length c.b)) from
      ⟨some ⟨G, 0, none⟩, 1, [p.as 3], c, rfl, by rw [← eq]; rfl, er, pl_off hB (pl_bk hG (fun x hx => by simp at hx; subst hx; exact ap.as 3)) (off4 _ _ _ _ _ _), at_off hB ac (off4 _ _ _ _ _ _), fun x hx => by simp at hx; subst hx; exact hp.as 3, hc, hb.trans ((off4 _ _ _ _ _ _).below hb.size (fun b hb => by simp at hb; omega)), Nat.le_refl _, by decide⟩))
  replace hB := hide hB
  unfold zP at hB hb0
  go_enter Tryz.func82, Tryz.ntmps82
  go_wp2_with (first
    | (go_at_call 31; (with_reducible refine (hN.out _).mono ?_); rintro e wa ⟨p, rfl, eq, pk, pa, hb⟩; have hR2 := hide (hB.out.next hb); have bw := hide (bl_trans hb0.out hb); clear hb hb0 hB)
    | (go_at_call 31; (with_reducible refine (hK.out _).mono ?_); rintro e wb ⟨c, rfl, er, ck, ca, hb⟩; have g := bl_one hb; have hG := hide (Bk.next (Bk.new (pcs [p.as 3]).toArray 83 wa) hb); have hR3 := hide (hR2.out.next g); have pa3 := pa.next g; have bw3 := hide (bl_trans bw.out g); have r0 := hR3.out.cell (j := 0) rfl; have r1 := hR3.out.cell (j := 1) rfl; have r2 := hR3.out.cell (j := 2) rfl; have r3 := hR3.out.cell (j := 3) rfl; have s0 := hR3.out.free 0; have s1 := hR3.out.free 1; have s2 := hR3.out.free 2; have s3 := hR3.out.free 3; clear hb g bw hR2 pa)
    | fail)
  exact bodyPost_ret (v := .agg #[.slice (some ⟨wa.heap.size, 0, none⟩) 1 1, .bool c.s, .slice c.A c.xs.length c.a, .slice c.B c.ys.length c.b]) (by simp [results, Tryz.results82, go_sem, r0, r1, r2, r3]) rfl (hfin.out _ wa.heap.size p c bw3.out hR3.out hG.out pk pa3 ck ca eq er)
end Nt

end Go.Proofs.YtgimmmmpollkhaaGreat
