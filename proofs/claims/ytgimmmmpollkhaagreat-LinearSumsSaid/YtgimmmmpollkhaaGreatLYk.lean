
/-
  Sums: linear.added: the walk.
  Sums: linear.Add, of what may not be.
  Sums: a part's number is stored anew in its row.
  Sums: linear.Add, of what may be.
  Sums: what LinearRings says, of lists of numbers and terms.
-/
import Derived.Test.YtgimmmmpollkhaaGreatLYa
namespace Go.Proofs.YtgimmmmpollkhaaGreat

open Go.ChangeShapes Go.RowKit

namespace Nt
set_option maxRecDepth 100000
set_option linter.unusedSimpArgs false
set_option linter.unusedVariables false

theorem Pl.tail {w : World} {g o ca : Nat} {p : Pt} {la : List Pt} (h : Pl w (some ⟨g, o, none⟩) (p :: la)) (hc : (p :: la).length ≤ ca) : Pl w (if ca = 1 then some ⟨g, o, none⟩ else some ⟨g, o + 4, none⟩) la := by
  rcases la with _ | ⟨r, la⟩
  · exact .inl rfl
  rw [if_neg (by simp at hc; omega)]
  rcases h with h | ⟨g', o', e, hc'⟩
  · cases h
  injection e with e
  injection e with e1 e2
  subst e1 e2
  refine .inr ⟨g, o + 4, rfl, fun i hi => ?_⟩
  have := hc' (i + 1) (by simpa using hi)
  rw [show o + (i + 1) * 4 = o + 4 + i * 4 by omega] at this
  exact this
theorem off3 (g : Nat) (W : World) (a b c : Value) : Off [g] W (((W.setCell ⟨g, 0, none⟩ a).setCell ⟨g, 1, none⟩ b).setCell ⟨g, 2, none⟩ c) :=
  (((Off.refl [g] W).setCell _ _ (.inl (by simp))).setCell _ _ (.inl (by simp))).setCell _ _ (.inl (by simp))
theorem Ax.far {w W W' : World} {c d : Pt} {A B : Option Addr} {n kc k kd mm g b : Nat} {l : List Pt} {cur : Array Value} {t : TypeId} (h : Ax w c d A B n kc k kd mm g l W) (hB : Bk b cur t W) (hno : ∀ v ∈ cur.toList, noU v = true) (hb : w.heap.size + 3 ≤ b) (hbg : g ≠ b) (hO : Off [b] W W') : Ax w c d A B n kc k kd mm g l W' := by
  have hn : ∀ j, j < w.heap.size + 3 → j ∉ [b] := fun j hj hm => by simp at hm; omega
  exact ⟨h.b.trans (hO.below h.b.size (fun x hx => by simp at hx; omega)), h.x.off hO (hn _ (by omega)), h.y.off hO (hn _ (by omega)), h.r.off hO (hn _ (by omega)), h.gw.off hO (by simpa using hbg), fun p hp => ⟨(h.ok p hp).1, hB.sl hno (h.ok p hp).2.1 hO, hB.sl hno (h.ok p hp).2.2 hO⟩⟩
def zR : Array Value := #[.bool false, .slice none 0 0, .slice none 0 0]
theorem zR_no : ∀ v ∈ zR.toList, noU v = true := by
  intro v hv
  simp [zR] at hv
  rcases hv with rfl | rfl <;> rfl
theorem Gw.mono {B B' g m : Nat} {w : World} {l : List Pt} (h : Gw B w g m l) (hB : B' ≤ B) : Gw B' w g m l := ⟨h.ex, Nat.le_trans hB h.base, h.room, h.big⟩
/-- A new sum whose parts' row may be written, and OK; or an error. -/
def AR (w : World) (L : List (Rat × Int)) (r : Rat) (e : Ending) (w' : World) : Prop := ∃ (g mm : Nat) (l' : List Pt) (r' : Pt), e = .returned (.tuple #[.agg #[.slice (some ⟨g, 0, none⟩) l'.length mm, .bool r'.s, .slice r'.A r'.xs.length r'.a, .slice r'.B r'.ys.length r'.b], .int .i64 0]) ∧ l'.map Pt.qt = L ∧ r'.q = r ∧ Gw w.heap.size w' g mm l' ∧ (∀ p ∈ l', p.Ok ∧ p.At w') ∧ r'.At w' ∧ r'.Ok ∧ Below w.heap.size w w'
def AdO (w : World) (b : Bool) (L : List (Rat × Int)) (r : Rat) (e : Ending) (w' : World) : Prop := (b = true ∧ AR w L r e w') ∨ (b = false ∧ PNo 4 w e w')
/-- The result is stored. -/
theorem Ax.done {w W : World} {c d r : Pt} {A B : Option Addr} {n kc k kd mm g : Nat} {l : List Pt} (h : Ax w c d A B n kc k kd mm g l W) (hr : r.At W) (a b c' d' : Value) :
    Gw w.heap.size ((((W.setCell ⟨w.heap.size + 1 + 1, 0, none⟩ a).setCell ⟨w.heap.size + 1 + 1, 1, none⟩ b).setCell ⟨w.heap.size + 1 + 1, 2, none⟩ c').setCell ⟨w.heap.size + 1 + 1, 3, none⟩ d') g mm l ∧ (∀ p ∈ l, p.Ok ∧ p.At ((((W.setCell ⟨w.heap.size + 1 + 1, 0, none⟩ a).setCell ⟨w.heap.size + 1 + 1, 1, none⟩ b).setCell ⟨w.heap.size + 1 + 1, 2, none⟩ c').setCell ⟨w.heap.size + 1 + 1, 3, none⟩ d')) ∧ r.At ((((W.setCell ⟨w.heap.size + 1 + 1, 0, none⟩ a).setCell ⟨w.heap.size + 1 + 1, 1, none⟩ b).setCell ⟨w.heap.size + 1 + 1, 2, none⟩ c').setCell ⟨w.heap.size + 1 + 1, 3, none⟩ d') ∧ Below w.heap.size w ((((W.setCell ⟨w.heap.size + 1 + 1, 0, none⟩ a).setCell ⟨w.heap.size + 1 + 1, 1, none⟩ b).setCell ⟨w.heap.size + 1 + 1, 2, none⟩ c').setCell ⟨w.heap.size + 1 + 1, 3, none⟩ d') := by
  have hO := off4 (w.heap.size + 1 + 1) W a b c' d'
  have hg := h.gw.base
  exact ⟨(h.gw.off hO (by simp; omega)).mono (by omega), fun p hp => ⟨(h.ok p hp).1, at_off h.r (h.ok p hp).2 hO⟩, at_off h.r hr hO, h.b.trans (hO.below h.b.size (fun b hb => by simp at hb; omega))⟩
def lenV : Value → Nat
  | .slice _ n _ => n
  | _ => 0

set_option maxHeartbeats 16000000 in
/-- linear.added. -/
theorem added_q (A B : Option Addr) (l m : List Pt) (kc kd : Nat) (c d : Pt) (w : World) (hl : Pl w A l) (hm : Pl w B m) (fl : ∀ p ∈ l, p.Ok) (fm : ∀ p ∈ m, p.Ok) (hc : c.At w) (hd : d.At w) (fc : c.Ok) (fd : d.Ok) (nl : l.length ≤ 1000) (nm : m.length ≤ 1000) (cl : l.length ≤ kc) (cm : m.length ≤ kd) (ml : kc ≤ maxLen) (mm : kd ≤ maxLen) :
    Calls Tryz.prog 53 #[polyV A l.length kc c, polyV B m.length kd d] w (AdO w (mfB (l.map Pt.qt) (m.map Pt.qt) && fitB (c.q + d.q)) (mrg (l.map Pt.qt) (m.map Pt.qt)) (c.q + d.q)) := by
  have hC := hide (fun W (b : Below w.heap.size w W) => add_p fc fd W (hc.next b) (hd.next b))
  have hCn := hide (fun W (b : Below w.heap.size w W) => add_n fc fd W (hc.next b) (hd.next b))
  unfold rv at hC hCn
  obtain ⟨n, hn⟩ : ∃ n, n = l.length := ⟨_, rfl⟩
  obtain ⟨k, hk⟩ : ∃ k, k = m.length := ⟨_, rfl⟩
  have hst := hide (fun W (b : Below (V3 w c d A B n kc k kd).heap.size (V3 w c d A B n kc k kd) W) => Ax.start w c d A B n kc k kd (n + k) (by omega) b)
  have hmk : ∀ W : World, (Instr.makeSlice 22 (.int .i64 0) (.int .i64 ((n : Int) + (k : Int)))).run Tryz.prog W = .ok (.slice (some ⟨W.heap.size, 0, none⟩) 0 (n + k)) (W.alloc (mz (n + k))) := fun W => by
    have := make_parts (n + k) (by omega) W
    rwa [Int.natCast_add] at this
  have hnk : (n : Int) + (k : Int) ≤ 2000 := by omega
  have h0 := hst.out _ (Below.refl _ _)
  have hbn := hide (fun j => ((Off.refl [] (V3 w c d A B n kc k kd)).drewN j).below (Nat.le_refl _) (by simp))
  unfold polyV
  rw [← hn, ← hk]
  unfold V3 zP at hst hbn h0
  replace hst := hide hst.out
  replace hbn := hide hbn.out
  replace hn := hide hn
  replace hk := hide hk
  generalize hi1 : c.xs.length = i1 at *
  generalize hi2 : c.ys.length = i2 at *
  generalize hj1 : d.xs.length = j1 at *
  generalize hj2 : d.ys.length = j2 at *
  replace hi1 := hide hi1; replace hi2 := hide hi2; replace hj1 := hide hj1; replace hj2 := hide hj2
  obtain ⟨_, ⟨x0, x1, x2, x3⟩, ⟨y0, y1, y2, y3⟩, _⟩ := h0
  go_enter Tryz.func53, Tryz.ntmps53
  go_wp2_with fail
  go_quiet (fail)
  go_wp2_with fail
  have X := (hst.out _ (hbn.out nq)).1
  rw [show (World.drewN (((w.alloc (.cells #[.slice A n kc, .bool c.s, .slice c.A i1 c.a, .slice c.B i2 c.b] 27)).alloc (.cells #[.slice B k kd, .bool d.s, .slice d.A j1 d.a, .slice d.B j2 d.b] 27)).alloc (.cells #[.slice none 0 0, .bool false, .slice none 0 0, .slice none 0 0] 27)) nq).heap.size = w.heap.size + 1 + 1 + 1 by simp] at X
  clear x0 x1 x2 x3 y0 y1 y2 y3 hst hbn hmk
  replace X := hide X
  generalize hg : w.heap.size + 1 + 1 + 1 = g at *
  replace hg := hide hg
  replace hl := hide hl; replace hm := hide hm; replace hc := hide hc; replace hd := hide hd; replace fl := hide fl; replace fm := hide fm
  go_loopw [6, 7, 8] (fun va vb vp wr => ∃ (la lb P : List Pt) (Aa Ab : Option Addr) (ca cb : Nat), va = .slice Aa la.length ca ∧ vb = .slice Ab lb.length cb ∧ vp = .slice (some ⟨g, 0, none⟩) P.length (n + k) ∧ Pl w Aa la ∧ Pl w Ab lb ∧ la.length ≤ ca ∧ lb.length ≤ cb ∧ ca ≤ maxLen ∧ cb ≤ maxLen ∧ (∀ p ∈ la, p.Ok) ∧ (∀ p ∈ lb, p.Ok) ∧ P.map Pt.qt ++ mrg (la.map Pt.qt) (lb.map Pt.qt) = mrg (l.map Pt.qt) (m.map Pt.qt) ∧ mfB (la.map Pt.qt) (lb.map Pt.qt) = mfB (l.map Pt.qt) (m.map Pt.qt) ∧ P.length + la.length + lb.length ≤ n + k ∧ Ax w c d A B n kc k kd (n + k) g P wr) (fun va vb _ _ => lenV va + lenV vb)
  case atStart => exact ⟨l, m, [], A, B, kc, kd, by rw [hn.out], by rw [hk.out], rfl, hl.out, hm.out, cl, cm, ml, mm, fl.out, fm.out, rfl, rfl, by rw [← hn.out, ← hk.out]; simp, X.out⟩
  case round =>
    obtain ⟨la, lb, P, Aa, Ab, ca, cb, rfl, rfl, rfl, hPa, hPb, lca, lcb, mca, mcb, fa, fb, hmr, hmf, hlen, hX⟩ := hrel
    by_cases hza : la = [] ∨ lb = []
    · have hmrg : mrg (la.map Pt.qt) (lb.map Pt.qt) = la.map Pt.qt ++ lb.map Pt.qt := by
        rcases hza with h | h <;> rw [h]
        · rw [List.map_nil, mrg_nil, List.nil_append]
        · rw [List.map_nil, mrg_nil', List.append_nil]
      have hmfb : mfB (la.map Pt.qt) (lb.map Pt.qt) = true := by
        rcases hza with h | h <;> rw [h]
        · rw [List.map_nil, mfB_nil]
        · rw [List.map_nil, mfB_nil']
      rw [hmrg] at hmr
      rw [hmfb] at hmf
      obtain ⟨w1, hr1, hX1⟩ := hX.pushes (ca := ca) la hPa fa (by omega)
      obtain ⟨w2, hr2, hX2⟩ := hX1.pushes (ca := cb) lb hPb fb (by simp; omega)
      rw [List.length_append] at hr2
      have hguard : ¬ ((0 : Int) < (la.length : Int)) ∨ ((0 : Int) < (la.length : Int) ∧ ¬ ((0 : Int) < (lb.length : Int))) := by
        by_cases h0 : (0 : Int) < (la.length : Int)
        · refine .inr ⟨h0, ?_⟩
          rcases hza with h | h
          · rw [h] at h0; simp at h0
          · rw [h]; simp
        · exact .inl h0
      have hL : (P ++ la ++ lb).length = P.length + la.length + lb.length := by rw [List.length_append, List.length_append]
      have hM : (P ++ la ++ lb).map Pt.qt = mrg (l.map Pt.qt) (m.map Pt.qt) := by rw [List.map_append, List.map_append, List.append_assoc]; exact hmr
      have hbw := hX2.b
      obtain ⟨x0, x1, x2, x3⟩ := hX2.x
      obtain ⟨y0, y1, y2, y3⟩ := hX2.y
      rw [hi1.out, hi2.out] at *
      rw [hj1.out, hj2.out] at *
      generalize P ++ la ++ lb = PP at *
      replace hX2 := hide hX2; replace hL := hide hL; replace hM := hide hM; replace hmf := hide hmf; replace hmrg := hide hmrg; replace hmfb := hide hmfb; replace hmr := hide hmr
      clear hza hX hX1 hPa hPb fa fb lca lcb mca mcb
      generalize la.length = na at *
      generalize lb.length = nb at *
      generalize P.length = np at *
      obtain ⟨f, hf⟩ : ∃ f, fitB (c.q + d.q) = f := ⟨_, rfl⟩
      cases f with
      | true =>
        have hC := hide (hC.out w2 hbw hf)
        have hbt := hide (show (mfB (l.map Pt.qt) (m.map Pt.qt) && fitB (c.q + d.q)) = true by rw [← hmf.out, hf]; rfl)
        clear hCn hf
        rcases hguard with hga | ⟨hga, hgb⟩
        all_goals
          go_wp2_with (first
            | (at_builtin; refine wpList_append_run _ rfl _ _ _ rfl _ _ _ _ rfl rfl hr1 ?_; clear hr1)
            | (at_builtin; refine wpList_append_run _ rfl _ _ _ rfl _ _ _ _ rfl rfl hr2 ?_; clear hr2)
            | (go_at_call 68; (with_reducible refine hC.out.mono ?_); rintro e wa ⟨r, rfl, hq, ht, hok, har, hb3⟩; have hX3 := (hX2.out.next hb3).al (.cells #[.bool r.s, .slice r.A r.xs.length r.a, .slice r.B r.ys.length r.b] 25); have har2 := har.next (bl_al (.refl _ _) (.cells #[.bool r.s, .slice r.A r.xs.length r.a, .slice r.B r.ys.length r.b] 25)); have r0 := hX3.r.cell (j := 0) rfl; have r1 := hX3.r.cell (j := 1) rfl; have r2 := hX3.r.cell (j := 2) rfl; have r3 := hX3.r.cell (j := 3) rfl; have s0 := hX3.r.free 0; have s1 := hX3.r.free 1; have s2 := hX3.r.free 2; have s3 := hX3.r.free 3; replace hX3 := hide hX3; replace har2 := hide har2; replace hq := hide hq; replace hok := hide hok; clear hb3 har ht))
          obtain ⟨e1, e2, e3, e4⟩ := hX3.out.done har2.out (.slice (some ⟨g, 0, none⟩) (np + na + nb) (n + k)) (.bool r.s) (.slice r.A r.xs.length r.a) (.slice r.B r.ys.length r.b)
          exact bodyPost_ret (v := .tuple #[.agg #[.slice (some ⟨g, 0, none⟩) (np + na + nb) (n + k), .bool r.s, .slice r.A r.xs.length r.a, .slice r.B r.ys.length r.b], .int .i64 0]) (by simp [results, Tryz.results53, go_sem, r0, r1, r2, r3]) rfl (Or.inl ⟨hbt.out, g, n + k, PP, r, by rw [hL.out], hM.out, hq.out, e1, e2, e3, hok.out, e4⟩)
      | false =>
        have hCn := hide (hCn.out w2 hbw hf)
        have hbf := hide (show (mfB (l.map Pt.qt) (m.map Pt.qt) && fitB (c.q + d.q)) = false by rw [← hmf.out, hf]; rfl)
        clear hC hf
        rcases hguard with hga | ⟨hga, hgb⟩
        all_goals
          go_wp2_with (first
            | (at_builtin; refine wpList_append_run _ rfl _ _ _ rfl _ _ _ _ rfl rfl hr1 ?_; clear hr1)
            | (at_builtin; refine wpList_append_run _ rfl _ _ _ rfl _ _ _ _ rfl rfl hr2 ?_; clear hr2)
            | (go_at_call 68; (with_reducible refine hCn.out.mono ?_); rintro e wa ⟨rfl, hb3⟩; have hX3 := (hX2.out.next hb3).al (.cells #[.bool false, .slice none 0 0, .slice none 0 0] 25); have r0 := hX3.r.cell (j := 0) rfl; have r1 := hX3.r.cell (j := 1) rfl; have r2 := hX3.r.cell (j := 2) rfl; have r3 := hX3.r.cell (j := 3) rfl; have s0 := hX3.r.free 0; have s1 := hX3.r.free 1; have s2 := hX3.r.free 2; have s3 := hX3.r.free 3; replace hX3 := hide hX3.b; clear hb3))
          exact bodyPost_ret (v := .tuple #[.agg #[.slice none 0 0, .bool false, .slice none 0 0, .slice none 0 0], .int .i64 4]) (by simp [results, Tryz.results53, go_sem, r0, r1, r2, r3]) rfl (Or.inr ⟨hbf.out, rfl, hX3.out.trans ((off4 _ _ _ _ _ _).below hX3.out.size (fun b hb => by simp at hb; omega))⟩)
    rcases la with _ | ⟨p, la⟩
    · exact absurd (Or.inl rfl) hza
    rcases lb with _ | ⟨q, lb⟩
    · exact absurd (Or.inr rfl) hza
    clear hza
    have hbw := hX.b
    obtain ⟨g1, o1, rfl, ⟨x0, x1, x2, x3⟩, ap⟩ := (hPa.next hbw).get (i := 0) (by simp)
    obtain ⟨g2, o2, rfl, ⟨y0, y1, y2, y3⟩, aq⟩ := (hPb.next hbw).get (i := 0) (by simp)
    simp only [List.getElem_cons_zero, Nat.zero_mul, Nat.add_zero] at x0 x1 x2 x3 y0 y1 y2 y3 ap aq
    obtain ⟨na, hna⟩ : ∃ x, x = (p :: la).length := ⟨_, rfl⟩
    obtain ⟨nb, hnb⟩ : ∃ x, x = (q :: lb).length := ⟨_, rfl⟩
    obtain ⟨np, hnp⟩ : ∃ x, x = P.length := ⟨_, rfl⟩
    have ha0 : (0 : Int) < (na : Int) := by rw [hna]; simp
    have hb0 : (0 : Int) < (nb : Int) := by rw [hnb]; simp
    rw [← hna] at lca hlen ⊢
    rw [← hnb] at lcb hlen ⊢
    rw [← hnp] at hlen ⊢
    replace hna := hide hna; replace hnb := hide hnb; replace hnp := hide hnp
    replace hmr := hide hmr; replace hmf := hide hmf; replace hPa := hide hPa; replace hPb := hide hPb; replace fa := hide fa; replace fb := hide fb; replace hX := hide hX; replace ap := hide ap; replace aq := hide aq
    have hcp : ∀ W, Below w.heap.size w W → W.cell? ⟨g1, o1, none⟩ = some (.bool p.s) ∧ W.cell? ⟨g1, o1 + 1, none⟩ = some (.slice p.A p.xs.length p.a) ∧ W.cell? ⟨g1, o1 + 2, none⟩ = some (.slice p.B p.ys.length p.b) ∧ W.cell? ⟨g1, o1 + 3, none⟩ = some (.int .i64 p.t) := by
      intro W b
      obtain ⟨g3, o3, e, ⟨c0, c1, c2, c3⟩, _⟩ := (hPa.out.next b).get (i := 0) (by simp)
      injection e with e
      injection e with e1 e2
      subst e1 e2
      simp only [List.getElem_cons_zero, Nat.zero_mul, Nat.add_zero] at c0 c1 c2 c3
      exact ⟨c0, c1, c2, c3⟩
    have hcq : ∀ W, Below w.heap.size w W → W.cell? ⟨g2, o2, none⟩ = some (.bool q.s) ∧ W.cell? ⟨g2, o2 + 1, none⟩ = some (.slice q.A q.xs.length q.a) ∧ W.cell? ⟨g2, o2 + 2, none⟩ = some (.slice q.B q.ys.length q.b) ∧ W.cell? ⟨g2, o2 + 3, none⟩ = some (.int .i64 q.t) := by
      intro W b
      obtain ⟨g3, o3, e, ⟨c0, c1, c2, c3⟩, _⟩ := (hPb.out.next b).get (i := 0) (by simp)
      injection e with e
      injection e with e1 e2
      subst e1 e2
      simp only [List.getElem_cons_zero, Nat.zero_mul, Nat.add_zero] at c0 c1 c2 c3
      exact ⟨c0, c1, c2, c3⟩
    replace hcp := hide hcp; replace hcq := hide hcq
    have ha1 : (1 : Int) ≤ (na : Int) := by omega
    have hb1 : (1 : Int) ≤ (nb : Int) := by omega
    generalize hp1 : p.xs.length = p1 at *
    generalize hp2 : p.ys.length = p2 at *
    generalize hq1 : q.xs.length = q1 at *
    generalize hq2 : q.ys.length = q2 at *
    replace hp1 := hide hp1; replace hp2 := hide hp2; replace hq1 := hide hq1; replace hq2 := hide hq2
    have hca : (1 : Int) ≤ (ca : Int) := by omega
    have hcb : (1 : Int) ≤ (cb : Int) := by omega
    obtain ⟨At, hAt⟩ : ∃ x : Option Addr, (if ca = 1 then some ⟨g1, o1, none⟩ else some ⟨g1, o1 + 4, none⟩) = x := ⟨_, rfl⟩
    obtain ⟨Bt, hBt⟩ : ∃ x : Option Addr, (if cb = 1 then some ⟨g2, o2, none⟩ else some ⟨g2, o2 + 4, none⟩) = x := ⟨_, rfl⟩
    by_cases hlt : p.t < q.t
    · go_upto_region 10 with fail
      go_quiet (fail)
      go_upto_region 11 with fail
      have hXd := (hX.out.drewN nq).next (((Off.refl [] (wr.drewN nq)).drew).below (Nat.le_refl _) (by simp))
      have bd1 := hXd.b
      obtain ⟨wb, hap, hXn⟩ := hXd.push p (fa.out p (by simp)) (ap.out.next (((Off.refl [] wr).drewN nq).drew.below (Nat.le_refl _) (by simp))) (by rw [← hnp.out]; omega)
      have bd3 := hXn.b
      rw [← hnp.out, hp1.out, hp2.out, show ((wr.drewN nq).drew).heap.size = wr.heap.size by simp] at hap
      replace hXn := hide hXn; skip
      clear hXd
      refine wp_region_held_drew (S := (fun W => W.cell? ⟨g1, o1, none⟩ = some (.bool p.s) ∧ W.cell? ⟨g1, o1 + 1, none⟩ = some (.slice p.A p1 p.a) ∧ W.cell? ⟨g1, o1 + 2, none⟩ = some (.slice p.B p2 p.b) ∧ W.cell? ⟨g1, o1 + 3, none⟩ = some (.int .i64 p.t))) (by kernel_rfl) ?_ (fun hHeld => ?_)
      · (try dsimp only)
        first | exact hcp.out _ bd1 | exact hcp.out _ (bl_al bd1 _) | exact hcp.out _ bd3
      refine wpAnyH_take (i := 0) (v := ?vva0) (by (simp only [List.getElem?_toArray, List.getElem?_cons_zero, List.getElem?_cons_succ]) <;> rfl) (by kernel_rfl) (by kernel_rfl) (by kernel_rfl) ?hqa0 (Or.inl ⟨by rfl, ?hya0⟩) (by assumption) ?_
      case hqa0 => exact fun _ _ _ h => h
      case hya0 => ((intro w hSw; (try dsimp only at hSw); go_simp) <;> (with_reducible rfl))
      (try simp only [Act.put, List.setIfInBounds_toArray, List.set_cons_zero, List.set_cons_succ])
      refine wpAnyH_take (i := 1) (v := ?vva1) (by (simp only [List.getElem?_toArray, List.getElem?_cons_zero, List.getElem?_cons_succ]) <;> rfl) (by kernel_rfl) (by kernel_rfl) (by kernel_rfl) ?hqa1 (Or.inl ⟨by rfl, ?hya1⟩) (by assumption) ?_
      case hqa1 => exact fun _ _ _ h => h
      case hya1 => ((intro w hSw; (try dsimp only at hSw); go_simp) <;> (with_reducible rfl))
      (try simp only [Act.put, List.setIfInBounds_toArray, List.set_cons_zero, List.set_cons_succ])
      refine wpAnyH_take (i := 2) (v := ?vva2) (by (simp only [List.getElem?_toArray, List.getElem?_cons_zero, List.getElem?_cons_succ]) <;> rfl) (by kernel_rfl) (by kernel_rfl) (by kernel_rfl) ?hqa2 (Or.inl ⟨by rfl, ?hya2⟩) (by assumption) ?_
      case hqa2 => exact fun _ _ _ h => h
      case hya2 => ((intro w hSw; (try dsimp only at hSw); go_simp) <;> (with_reducible rfl))
      (try simp only [Act.put, List.setIfInBounds_toArray, List.set_cons_zero, List.set_cons_succ])
      refine wpAnyH_take (i := 3) (v := ?vva3) (by (simp only [List.getElem?_toArray, List.getElem?_cons_zero, List.getElem?_cons_succ]) <;> rfl) (by kernel_rfl) (by kernel_rfl) (by kernel_rfl) ?hqa3 (Or.inl ⟨by rfl, ?hya3⟩) (by assumption) ?_
      case hqa3 => exact fun _ _ _ h => h
      case hya3 => ((intro w hSw; (try dsimp only at hSw); go_simp) <;> (with_reducible rfl))
      (try simp only [Act.put, List.setIfInBounds_toArray, List.set_cons_zero, List.set_cons_succ])
      refine wpAnyH_take (i := 6) (v := ?vva6) (by (simp only [List.getElem?_toArray, List.getElem?_cons_zero, List.getElem?_cons_succ]) <;> rfl) (by kernel_rfl) (by kernel_rfl) (by kernel_rfl) ?hqa6 (Or.inl ⟨by rfl, ?hya6⟩) (by assumption) ?_
      case hqa6 => exact fun _ _ _ h => h
      case hya6 => ((intro w hSw; (try dsimp only at hSw); go_simp) <;> (with_reducible rfl))
      (try simp only [Act.put, List.setIfInBounds_toArray, List.set_cons_zero, List.set_cons_succ])
      refine wpAnyH_take (i := 7) (v := ?vva7) (by (simp only [List.getElem?_toArray, List.getElem?_cons_zero, List.getElem?_cons_succ]) <;> rfl) (by kernel_rfl) (by kernel_rfl) (by kernel_rfl) ?hqa7 (Or.inl ⟨by rfl, ?hya7⟩) (by assumption) ?_
      case hqa7 => exact fun _ _ _ h => h
      case hya7 => ((intro w hSw; (try dsimp only at hSw); go_simp) <;> (with_reducible rfl))
      (try simp only [Act.put, List.setIfInBounds_toArray, List.set_cons_zero, List.set_cons_succ])
      refine wpAnyH_ready (rs := [4]) (by kernel_rfl) (by simp) ?_
      refine AllReadyH.cons (by (simp only [List.getElem?_toArray, List.getElem?_cons_zero, List.getElem?_cons_succ]) <;> rfl) (fun K hK => ?_) AllReadyH.nil
      go_simp
      refine hK.out _ _ ?_ (fun hHeld => ?_)
      · (try dsimp only)
        first | exact hcp.out _ bd1 | exact hcp.out _ (bl_al bd1 _) | exact hcp.out _ bd3
      (try clear hK K)
      (try simp only [Act.put, List.setIfInBounds_toArray, List.set_cons_zero, List.set_cons_succ])
      refine wpAnyH_ready (rs := [5]) (by kernel_rfl) (by simp) ?_
      refine AllReadyH.cons (by (simp only [List.getElem?_toArray, List.getElem?_cons_zero, List.getElem?_cons_succ]) <;> rfl) (fun K hK => ?_) AllReadyH.nil
      refine wp_append_run _ _ _ _ rfl _ _ _ _ rfl rfl hap ?_
      (try go_wp2_with fail)
      refine hK.out _ _ ?_ (fun hHeld => ?_)
      · (try dsimp only)
        first | exact hcp.out _ bd1 | exact hcp.out _ (bl_al bd1 _) | exact hcp.out _ bd3
      (try clear hK K)
      (try simp only [Act.put, List.setIfInBounds_toArray, List.set_cons_zero, List.set_cons_succ])
      refine wpAnyH_take (i := 8) (v := ?vva8) (by (simp only [List.getElem?_toArray, List.getElem?_cons_zero, List.getElem?_cons_succ]) <;> rfl) (by kernel_rfl) (by kernel_rfl) (by kernel_rfl) ?hqa8 (Or.inl ⟨by rfl, ?hya8⟩) (by assumption) ?_
      case hqa8 => exact fun _ _ _ h => h
      case hya8 => ((intro w hSw; (try dsimp only at hSw); go_simp) <;> (with_reducible rfl))
      (try simp only [Act.put, List.setIfInBounds_toArray, List.set_cons_zero, List.set_cons_succ])
      refine wpAnyH_take (i := 9) (v := ?vva9) (by (simp only [List.getElem?_toArray, List.getElem?_cons_zero, List.getElem?_cons_succ]) <;> rfl) (by kernel_rfl) (by kernel_rfl) (by kernel_rfl) ?hqa9 (Or.inl ⟨by rfl, ?hya9⟩) (by assumption) ?_
      case hqa9 => exact fun _ _ _ h => h
      case hya9 => ((intro w hSw; (try dsimp only at hSw); go_simp) <;> (with_reducible rfl))
      (try simp only [Act.put, List.setIfInBounds_toArray, List.set_cons_zero, List.set_cons_succ])
      refine wpAnyH_done (by kernel_rfl) ?_ _
      go_wp2_with fail
      go_roundw
      case rel =>
        have hmr := hmr.out
        have hmf := hmf.out
        rw [List.map_cons, List.map_cons, mrg_lt hlt] at hmr
        rw [List.map_cons, List.map_cons, mfB_lt hlt] at hmf
        have hna' : la.length = na - 1 := by rw [hna.out]; simp
        have hPt := hPa.out.tail (ca := ca) (by rw [← hna.out]; exact lca)
        rw [hAt] at hPt
        refine ⟨la, q :: lb, P ++ [p], At, some ⟨g2, o2, none⟩, ca - 1, cb, by rw [hna'], by rw [hnb.out], by rw [hnp.out]; simp, hPt, hPb.out, by omega, by rw [← hnb.out]; exact lcb, by omega, mcb, fun r hr => fa.out r (by simp [hr]), fb.out, ?_, hmf, by rw [← hnb.out]; simp; rw [← hnp.out]; omega, hXn.out⟩
        rw [List.map_append, List.append_assoc]
        exact hmr
      case measure => simp only [lenV]; omega
    · have hle : ¬ p.t < q.t := hlt
      by_cases hgt : q.t < p.t
      · go_upto_region 10 with fail
        go_quiet (fail)
        revert nq
        intro nq0
        go_upto_region 12 with fail
        go_quiet (fail)
        go_upto_region 13 with fail
        rw [World.drewN_drewN]
        generalize nq0 + nq = nr
        have hXd := (hX.out.drewN nr).next (((Off.refl [] (wr.drewN nr)).drew).below (Nat.le_refl _) (by simp))
        have bd1 := hXd.b
        obtain ⟨wb, hap, hXn⟩ := hXd.push q (fb.out q (by simp)) (aq.out.next (((Off.refl [] wr).drewN nr).drew.below (Nat.le_refl _) (by simp))) (by rw [← hnp.out]; omega)
        have bd3 := hXn.b
        rw [← hnp.out, hq1.out, hq2.out, show ((wr.drewN nr).drew).heap.size = wr.heap.size by simp] at hap
        replace hXn := hide hXn; skip
        clear hXd
        refine wp_region_held_drew (S := (fun W => W.cell? ⟨g2, o2, none⟩ = some (.bool q.s) ∧ W.cell? ⟨g2, o2 + 1, none⟩ = some (.slice q.A q1 q.a) ∧ W.cell? ⟨g2, o2 + 2, none⟩ = some (.slice q.B q2 q.b) ∧ W.cell? ⟨g2, o2 + 3, none⟩ = some (.int .i64 q.t))) (by kernel_rfl) ?_ (fun hHeld => ?_)
        · (try dsimp only)
          first | exact hcq.out _ bd1 | exact hcq.out _ (bl_al bd1 _) | exact hcq.out _ bd3
        refine wpAnyH_take (i := 0) (v := ?vvb0) (by (simp only [List.getElem?_toArray, List.getElem?_cons_zero, List.getElem?_cons_succ]) <;> rfl) (by kernel_rfl) (by kernel_rfl) (by kernel_rfl) ?hqb0 (Or.inl ⟨by rfl, ?hyb0⟩) (by assumption) ?_
        case hqb0 => exact fun _ _ _ h => h
        case hyb0 => ((intro w hSw; (try dsimp only at hSw); go_simp) <;> (with_reducible rfl))
        (try simp only [Act.put, List.setIfInBounds_toArray, List.set_cons_zero, List.set_cons_succ])
        refine wpAnyH_take (i := 1) (v := ?vvb1) (by (simp only [List.getElem?_toArray, List.getElem?_cons_zero, List.getElem?_cons_succ]) <;> rfl) (by kernel_rfl) (by kernel_rfl) (by kernel_rfl) ?hqb1 (Or.inl ⟨by rfl, ?hyb1⟩) (by assumption) ?_
        case hqb1 => exact fun _ _ _ h => h
        case hyb1 => ((intro w hSw; (try dsimp only at hSw); go_simp) <;> (with_reducible rfl))
        (try simp only [Act.put, List.setIfInBounds_toArray, List.set_cons_zero, List.set_cons_succ])
        refine wpAnyH_take (i := 2) (v := ?vvb2) (by (simp only [List.getElem?_toArray, List.getElem?_cons_zero, List.getElem?_cons_succ]) <;> rfl) (by kernel_rfl) (by kernel_rfl) (by kernel_rfl) ?hqb2 (Or.inl ⟨by rfl, ?hyb2⟩) (by assumption) ?_
        case hqb2 => exact fun _ _ _ h => h
        case hyb2 => ((intro w hSw; (try dsimp only at hSw); go_simp) <;> (with_reducible rfl))
        (try simp only [Act.put, List.setIfInBounds_toArray, List.set_cons_zero, List.set_cons_succ])
        refine wpAnyH_take (i := 3) (v := ?vvb3) (by (simp only [List.getElem?_toArray, List.getElem?_cons_zero, List.getElem?_cons_succ]) <;> rfl) (by kernel_rfl) (by kernel_rfl) (by kernel_rfl) ?hqb3 (Or.inl ⟨by rfl, ?hyb3⟩) (by assumption) ?_
        case hqb3 => exact fun _ _ _ h => h
        case hyb3 => ((intro w hSw; (try dsimp only at hSw); go_simp) <;> (with_reducible rfl))
        (try simp only [Act.put, List.setIfInBounds_toArray, List.set_cons_zero, List.set_cons_succ])
        refine wpAnyH_take (i := 6) (v := ?vvb6) (by (simp only [List.getElem?_toArray, List.getElem?_cons_zero, List.getElem?_cons_succ]) <;> rfl) (by kernel_rfl) (by kernel_rfl) (by kernel_rfl) ?hqb6 (Or.inl ⟨by rfl, ?hyb6⟩) (by assumption) ?_
        case hqb6 => exact fun _ _ _ h => h
        case hyb6 => ((intro w hSw; (try dsimp only at hSw); go_simp) <;> (with_reducible rfl))
        (try simp only [Act.put, List.setIfInBounds_toArray, List.set_cons_zero, List.set_cons_succ])
        refine wpAnyH_take (i := 7) (v := ?vvb7) (by (simp only [List.getElem?_toArray, List.getElem?_cons_zero, List.getElem?_cons_succ]) <;> rfl) (by kernel_rfl) (by kernel_rfl) (by kernel_rfl) ?hqb7 (Or.inl ⟨by rfl, ?hyb7⟩) (by assumption) ?_
        case hqb7 => exact fun _ _ _ h => h
        case hyb7 => ((intro w hSw; (try dsimp only at hSw); go_simp) <;> (with_reducible rfl))
        (try simp only [Act.put, List.setIfInBounds_toArray, List.set_cons_zero, List.set_cons_succ])
        refine wpAnyH_ready (rs := [4]) (by kernel_rfl) (by simp) ?_
        refine AllReadyH.cons (by (simp only [List.getElem?_toArray, List.getElem?_cons_zero, List.getElem?_cons_succ]) <;> rfl) (fun K hK => ?_) AllReadyH.nil
        go_simp
        refine hK.out _ _ ?_ (fun hHeld => ?_)
        · (try dsimp only)
          first | exact hcq.out _ bd1 | exact hcq.out _ (bl_al bd1 _) | exact hcq.out _ bd3
        (try clear hK K)
        (try simp only [Act.put, List.setIfInBounds_toArray, List.set_cons_zero, List.set_cons_succ])
        refine wpAnyH_ready (rs := [5]) (by kernel_rfl) (by simp) ?_
        refine AllReadyH.cons (by (simp only [List.getElem?_toArray, List.getElem?_cons_zero, List.getElem?_cons_succ]) <;> rfl) (fun K hK => ?_) AllReadyH.nil
        refine wp_append_run _ _ _ _ rfl _ _ _ _ rfl rfl hap ?_
        (try go_wp2_with fail)
        refine hK.out _ _ ?_ (fun hHeld => ?_)
        · (try dsimp only)
          first | exact hcq.out _ bd1 | exact hcq.out _ (bl_al bd1 _) | exact hcq.out _ bd3
        (try clear hK K)
        (try simp only [Act.put, List.setIfInBounds_toArray, List.set_cons_zero, List.set_cons_succ])
        refine wpAnyH_take (i := 8) (v := ?vvb8) (by (simp only [List.getElem?_toArray, List.getElem?_cons_zero, List.getElem?_cons_succ]) <;> rfl) (by kernel_rfl) (by kernel_rfl) (by kernel_rfl) ?hqb8 (Or.inl ⟨by rfl, ?hyb8⟩) (by assumption) ?_
        case hqb8 => exact fun _ _ _ h => h
        case hyb8 => ((intro w hSw; (try dsimp only at hSw); go_simp) <;> (with_reducible rfl))
        (try simp only [Act.put, List.setIfInBounds_toArray, List.set_cons_zero, List.set_cons_succ])
        refine wpAnyH_take (i := 9) (v := ?vvb9) (by (simp only [List.getElem?_toArray, List.getElem?_cons_zero, List.getElem?_cons_succ]) <;> rfl) (by kernel_rfl) (by kernel_rfl) (by kernel_rfl) ?hqb9 (Or.inl ⟨by rfl, ?hyb9⟩) (by assumption) ?_
        case hqb9 => exact fun _ _ _ h => h
        case hyb9 => ((intro w hSw; (try dsimp only at hSw); go_simp) <;> (with_reducible rfl))
        (try simp only [Act.put, List.setIfInBounds_toArray, List.set_cons_zero, List.set_cons_succ])
        refine wpAnyH_done (by kernel_rfl) ?_ _
        go_wp2_with fail
        go_roundw
        case rel =>
          have hmr := hmr.out
          have hmf := hmf.out
          rw [List.map_cons, List.map_cons, mrg_gt hgt] at hmr
          rw [List.map_cons, List.map_cons, mfB_gt hgt] at hmf
          have hnb' : lb.length = nb - 1 := by rw [hnb.out]; simp
          have hPt := hPb.out.tail (ca := cb) (by rw [← hnb.out]; exact lcb)
          rw [hBt] at hPt
          refine ⟨p :: la, lb, P ++ [q], some ⟨g1, o1, none⟩, Bt, ca, cb - 1, by rw [hna.out], by rw [hnb'], by rw [hnp.out]; simp, hPa.out, hPt, by rw [← hna.out]; exact lca, by omega, mca, by omega, fa.out, fun r hr => fb.out r (by simp [hr]), ?_, hmf, by rw [← hna.out]; simp; rw [← hnp.out]; omega, hXn.out⟩
          rw [List.map_append, List.append_assoc]
          exact hmr
        case measure => simp only [lenV]; omega
      · have heq : p.t = q.t := by omega
        go_upto_region 10 with fail
        go_quiet (fail)
        revert nq
        intro nq0
        go_upto_region 12 with fail
        go_quiet (fail)
        go_upto_region 4 with fail
        rw [World.drewN_drewN]
        generalize nq0 + nq = nr
        have bd0 := ((hX.out.drewN nr).next (((Off.refl [] (wr.drewN nr)).drew).below (Nat.le_refl _) (by simp))).b
        have hXd := hX.out.drewN (nr + 1)
        have bd1 := hXd.b
        have hS6 := hide (fun W (b : Below w.heap.size w W) => And.intro (hcp.out W b) (hcq.out W b))
        have hAt2 : ∀ W, Below w.heap.size w W → p.At W ∧ q.At W := fun W b => by
          obtain ⟨_, _, _, _, h1⟩ := (hPa.out.next b).get (i := 0) (by simp)
          obtain ⟨_, _, _, _, h2⟩ := (hPb.out.next b).get (i := 0) (by simp)
          exact ⟨h1, h2⟩
        obtain ⟨ff, hff⟩ : ∃ ff, fitB (p.q + q.q) = ff := ⟨_, rfl⟩
        cases ff with
        | false =>
          have hA := hide (fun W (b : Below w.heap.size w W) => add_n (fa.out p (by simp)) (fb.out q (by simp)) W (hAt2 W b).1 (hAt2 W b).2 hff)
          unfold rv at hA
          rw [hp1.out, hp2.out, hq1.out, hq2.out] at hA
          have hQ : Q3 wr.heap.size (.bool false) (.slice none 0 0) (.slice none 0 0) ((wr.drewN (nr + 1)).alloc (.cells #[.bool false, .slice none 0 0, .slice none 0 0] 25)) := by
            have := Q3.new (.bool false) (.slice none 0 0) (.slice none 0 0) (wr.drewN (nr + 1))
            rwa [show (wr.drewN (nr + 1)).heap.size = wr.heap.size by simp] at this
          have hle := hXd.b.size
          rw [show (wr.drewN (nr + 1)).heap.size = wr.heap.size by simp] at hle
          have hZ : Bk wr.heap.size zR 25 ((wr.drewN (nr + 1)).alloc (.cells #[.bool false, .slice none 0 0, .slice none 0 0] 25)) := by
            have := Bk.new zR 25 (wr.drewN (nr + 1))
            rwa [show (wr.drewN (nr + 1)).heap.size = wr.heap.size by simp] at this
          have hgl := hX.out.gw.lt
          have hgb := hX.out.gw.base
          replace hgl := hide hgl; replace hgb := hide hgb; replace hZ := hide hZ
          replace hQ := hide hQ; replace hXd := hide hXd; replace hff := hide hff
          have hP3 := hide hcp.out
          clear hAt2 hcp hcq
          go_cut [9, 10] (fun s9 s10 wx => ∃ gb : Nat, s9 = .pointer (some ⟨gb, 0, none⟩) ∧ s10 = .int .i64 4 ∧ Ax w c d A B n kc k kd (n + k) g P wx)
          case first =>
            go_region_held3 (fun W => (W.cell? ⟨g1, o1, none⟩ = some (.bool p.s) ∧ W.cell? ⟨g1, o1 + 1, none⟩ = some (.slice p.A p1 p.a) ∧ W.cell? ⟨g1, o1 + 2, none⟩ = some (.slice p.B p2 p.b) ∧ W.cell? ⟨g1, o1 + 3, none⟩ = some (.int .i64 p.t)) ∧ W.cell? ⟨g2, o2, none⟩ = some (.bool q.s) ∧ W.cell? ⟨g2, o2 + 1, none⟩ = some (.slice q.A q1 q.a) ∧ W.cell? ⟨g2, o2 + 2, none⟩ = some (.slice q.B q2 q.b) ∧ W.cell? ⟨g2, o2 + 3, none⟩ = some (.int .i64 q.t))
              (first | exact hS6.out _ bd0 | exact hS6.out _ bd1 | exact hS6.out _ (bl_al bd1 _) | exact hS6.out _ bd2 | exact hS6.out _ (bl_al bd2 _) | exact hS6.out _ (bd2.trans ((off3 _ _ _ _ _).below bd2.size (fun b hb => by simp at hb; omega))))
              (first
                | (go_at_call 68; (with_reducible refine (hA.out _ bd1).mono ?_); rintro e wa ⟨rfl, hb3⟩; have bd2 := bl_trans bd1 hb3; have hX2 := hXd.out.next hb3)
                | (go_at_call 68; (with_reducible refine (hA.out _ (bl_al bd1 _)).mono ?_); rintro e wa ⟨rfl, hb3⟩; have bd2 := bl_trans (bl_al bd1 _) hb3; have hX2 := (hXd.out.al _).next hb3; have hQ2 := hQ.out.next hb3; obtain ⟨v1, v2, v3, v4, v5, v6⟩ := hQ2; have hZ2 := hide (hZ.out.next hb3)))
            all_goals
              go_wp2_with fail
              go_meet
              first
                | exact ⟨wa.heap.size, rfl, rfl, hX2.al _⟩
                | (refine ⟨wr.heap.size, rfl, rfl, hX2.far hZ2.out zR_no ?_ ?_ (off3 _ _ _ _ _)⟩
                   · have := hgl.out; have := hgb.out; omega
                   · have := hgl.out; omega)
          case rest =>
          obtain ⟨gb, rfl, rfl, hXr⟩ := hcut
          have hno : mfB (l.map Pt.qt) (m.map Pt.qt) = false := by
            have hmf := hmf.out
            rw [List.map_cons, List.map_cons, mfB_eq heq, show fitB (p.qt.1 + q.qt.1) = false from hff.out, Bool.false_and] at hmf
            exact hmf.symm
          have hbf := hide (show (mfB (l.map Pt.qt) (m.map Pt.qt) && fitB (c.q + d.q)) = false by rw [hno]; rfl)
          have r0 := hXr.r.cell (j := 0) rfl
          have r1 := hXr.r.cell (j := 1) rfl
          have r2 := hXr.r.cell (j := 2) rfl
          have r3 := hXr.r.cell (j := 3) rfl
          have s0 := hXr.r.free 0
          have s1 := hXr.r.free 1
          have s2 := hXr.r.free 2
          have s3 := hXr.r.free 3
          have hXb := hide hXr.b
          clear bd0 bd1 hS6 hA hQ hZ hXd hXr hno
          go_wp2_with fail
          exact bodyPost_ret (v := .tuple #[.agg #[.slice none 0 0, .bool false, .slice none 0 0, .slice none 0 0], .int .i64 4]) (by simp [results, Tryz.results53, go_sem, r0, r1, r2, r3]) rfl (Or.inr ⟨hbf.out, rfl, hXb.out.trans ((off4 _ _ _ _ _ _).below hXb.out.size (fun b hb => by simp at hb; omega))⟩)
        | true =>
          have hA := hide (fun W (b : Below w.heap.size w W) => add_p (fa.out p (by simp)) (fb.out q (by simp)) W (hAt2 W b).1 (hAt2 W b).2 hff)
          unfold rv at hA
          rw [hp1.out, hp2.out, hq1.out, hq2.out] at hA
          have hQ : Q3 wr.heap.size (.bool false) (.slice none 0 0) (.slice none 0 0) ((wr.drewN (nr + 1)).alloc (.cells #[.bool false, .slice none 0 0, .slice none 0 0] 25)) := by
            have := Q3.new (.bool false) (.slice none 0 0) (.slice none 0 0) (wr.drewN (nr + 1))
            rwa [show (wr.drewN (nr + 1)).heap.size = wr.heap.size by simp] at this
          have hle := hXd.b.size
          rw [show (wr.drewN (nr + 1)).heap.size = wr.heap.size by simp] at hle
          have hZ : Bk wr.heap.size zR 25 ((wr.drewN (nr + 1)).alloc (.cells #[.bool false, .slice none 0 0, .slice none 0 0] 25)) := by
            have := Bk.new zR 25 (wr.drewN (nr + 1))
            rwa [show (wr.drewN (nr + 1)).heap.size = wr.heap.size by simp] at this
          have hgl := hX.out.gw.lt
          have hgb := hX.out.gw.base
          replace hgl := hide hgl; replace hgb := hide hgb; replace hZ := hide hZ
          replace hQ := hide hQ; replace hXd := hide hXd; replace hff := hide hff
          have hP3 := hide hcp.out
          clear hAt2 hcp hcq
          go_cut [9, 10] (fun s9 s10 wx => ∃ (gb : Nat) (r : Pt), s9 = .pointer (some ⟨gb, 0, none⟩) ∧ s10 = .int .i64 0 ∧ r.q = p.q + q.q ∧ r.t = p.t ∧ r.Ok ∧ r.At wx ∧ C3 gb (.bool r.s) (.slice r.A r.xs.length r.a) (.slice r.B r.ys.length r.b) wx ∧ Ax w c d A B n kc k kd (n + k) g P wx ∧ gb ≠ g)
          case first =>
            go_region_held3 (fun W => (W.cell? ⟨g1, o1, none⟩ = some (.bool p.s) ∧ W.cell? ⟨g1, o1 + 1, none⟩ = some (.slice p.A p1 p.a) ∧ W.cell? ⟨g1, o1 + 2, none⟩ = some (.slice p.B p2 p.b) ∧ W.cell? ⟨g1, o1 + 3, none⟩ = some (.int .i64 p.t)) ∧ W.cell? ⟨g2, o2, none⟩ = some (.bool q.s) ∧ W.cell? ⟨g2, o2 + 1, none⟩ = some (.slice q.A q1 q.a) ∧ W.cell? ⟨g2, o2 + 2, none⟩ = some (.slice q.B q2 q.b) ∧ W.cell? ⟨g2, o2 + 3, none⟩ = some (.int .i64 q.t))
              (first | exact hS6.out _ bd0 | exact hS6.out _ bd1 | exact hS6.out _ (bl_al bd1 _) | exact hS6.out _ bd2 | exact hS6.out _ (bl_al bd2 _) | exact hS6.out _ (bd2.trans ((off3 _ _ _ _ _).below bd2.size (fun b hb => by simp at hb; omega))))
              (first
                | (go_at_call 68; (with_reducible refine (hA.out _ bd1).mono ?_); rintro e wa ⟨r, rfl, hrq, hrt, hrok, hra, hb3⟩; have bd2 := bl_trans bd1 hb3; have hX2 := hXd.out.next hb3)
                | (go_at_call 68; (with_reducible refine (hA.out _ (bl_al bd1 _)).mono ?_); rintro e wa ⟨r, rfl, hrq, hrt, hrok, hra, hb3⟩; have bd2 := bl_trans (bl_al bd1 _) hb3; have hX2 := (hXd.out.al _).next hb3; have hQ2 := hQ.out.next hb3; obtain ⟨v1, v2, v3, v4, v5, v6⟩ := hQ2; have hZ2 := hide (hZ.out.next hb3)))
            all_goals
              go_wp2_with fail
              go_meet
              first
                | exact ⟨wa.heap.size, r, rfl, rfl, hrq, hrt, hrok, hra.next (bl_al (.refl _ _) _), C3.of (Bk.new _ _ _), hX2.al _, Nat.ne_of_gt hX2.gw.lt⟩
                | (refine ⟨wr.heap.size, r, rfl, rfl, hrq, hrt, hrok, ⟨hZ2.out.sl zR_no hra.1 (off3 _ _ _ _ _), hZ2.out.sl zR_no hra.2 (off3 _ _ _ _ _)⟩, C3.of (((hZ2.out.set _ rfl).set _ rfl).set _ rfl), hX2.far hZ2.out zR_no ?_ ?_ (off3 _ _ _ _ _), ?_⟩
                   · have := hgl.out; have := hgb.out; omega
                   · have := hgl.out; omega
                   · have := hgl.out; omega)
          case rest =>
          obtain ⟨gb, r, rfl, rfl, hrq, hrt, hrok, hra, hrc, hXr, hgbg⟩ := hcut
          have hSg := sign_p hrok wc hra
          unfold rv at hSg
          clear bd0 bd1 hS6 hA hQ hZ hXd
          obtain ⟨x0, x1, x2⟩ := hrc
          have hrcn := hide (fun W b => C3.next (W := W) ⟨x0, x1, x2⟩ b)
          have hp3 := hide (fun W (b : Below w.heap.size w W) => (hP3.out W b).2.2.2)
          replace hrt := hide hrt; replace heq := hide heq
          by_cases h0 : r.q = 0
          · have hz : cmpZ r.q.num 0 = 0 := (cmpZ_0 _).2 h0
            rw [hz] at hSg
            replace hSg := hide hSg; replace hz := hide hz; replace h0 := hide h0; replace hrq := hide hrq; replace hXr := hide hXr; replace hra := hide hra; replace hrok := hide hrok
            go_upto_region 9 with (go_at_call 71; (with_reducible refine hSg.out.mono ?_); rintro e we ⟨rfl, hb4⟩; have hXe := hide (hXr.out.next hb4); clear hb4)
            go_quiet (fail)
            go_wp2_with fail
            go_roundw
            case rel =>
              have hmr := hmr.out
              have hmf := hmf.out
              rw [List.map_cons, List.map_cons, mrg_zero heq.out (by show p.q + q.q = 0; rw [← hrq.out]; exact h0.out)] at hmr
              rw [List.map_cons, List.map_cons, mfB_eq heq.out, show fitB (p.qt.1 + q.qt.1) = true from hff.out, Bool.true_and] at hmf
              have hna' : la.length = na - 1 := by rw [hna.out]; simp
              have hnb' : lb.length = nb - 1 := by rw [hnb.out]; simp
              have hPt := hPa.out.tail (ca := ca) (by rw [← hna.out]; exact lca)
              have hPu := hPb.out.tail (ca := cb) (by rw [← hnb.out]; exact lcb)
              rw [hAt] at hPt
              rw [hBt] at hPu
              exact ⟨la, lb, P, At, Bt, ca - 1, cb - 1, by rw [hna'], by rw [hnb'], by rw [hnp.out], hPt, hPu, by omega, by omega, by omega, by omega, fun r hr => fa.out r (by simp [hr]), fun r hr => fb.out r (by simp [hr]), hmr, hmf, by rw [← hnp.out]; omega, hXe.out.drewN _⟩
            case measure => simp only [lenV]; omega
          · have hz : cmpZ r.q.num 0 ≠ 0 := fun e => h0 ((cmpZ_0 _).1 e)
            generalize hzz : cmpZ r.q.num 0 = z at *
            replace hzz := hide hzz
            have hz1 : (z == 0) = false := by simpa using hz
            have hz2 : (z != 0) = true := by simpa using hz
            replace hz := hide hz; replace hSg := hide hSg; replace hXr := hide hXr; replace hra := hide hra
            go_upto_region 8 with (go_at_call 71; (with_reducible refine hSg.out.mono ?_); rintro e we ⟨rfl, hb4⟩; have hXe := hXr.out.next hb4; have hre := hra.out.next hb4; have hce := hrcn.out _ hb4; clear hb4)
            have hXf := hXe.next (((Off.refl [] we).drew).below (Nat.le_refl _) (by simp))
            have be0 : Below we.heap.size we we.drew := ((Off.refl [] we).drew).below (Nat.le_refl _) (by simp)
            have be1 : Below we.heap.size we we.drew := be0
            have hS4 := hide (fun W (b : Below we.heap.size we W) => And.intro (hce.next b) (hp3.out W (bl_trans hXe.b b)))
            obtain ⟨wb, hap, hXn, hOg⟩ := hXf.push' r hrok (hre.next be0) (by rw [← hnp.out]; omega)
            have hS4b : (wb.cell? ⟨gb, 0, none⟩ = some (.bool r.s) ∧ wb.cell? ⟨gb, 1, none⟩ = some (.slice r.A r.xs.length r.a) ∧ wb.cell? ⟨gb, 2, none⟩ = some (.slice r.B r.ys.length r.b)) ∧ wb.cell? ⟨g1, o1 + 3, none⟩ = some (.int .i64 p.t) := by
              exact ⟨(hce.next be0).off hOg (by simpa using hgbg), hp3.out wb hXn.b⟩
            rw [← hnp.out, hrt.out, show we.drew.heap.size = we.heap.size by simp, show ∀ X, we.drew.alloc X = (we.alloc X).drew from fun _ => rfl] at hap
            replace hXn := hide hXn; replace hce := hide hce; replace hXe := hide hXe; replace hXf := hide hXf; replace hre := hide hre; replace hrq := hide hrq; replace h0 := hide h0; replace hrok := hide hrok
            refine wp_region_held_drew (S := (fun W => (W.cell? ⟨gb, 0, none⟩ = some (.bool r.s) ∧ W.cell? ⟨gb, 1, none⟩ = some (.slice r.A r.xs.length r.a) ∧ W.cell? ⟨gb, 2, none⟩ = some (.slice r.B r.ys.length r.b)) ∧ W.cell? ⟨g1, o1 + 3, none⟩ = some (.int .i64 p.t))) (by kernel_rfl) ?_ (fun hHeld => ?_)
            · (try dsimp only)
              first | exact hS4.out _ be1 | exact hS4.out _ (bl_al be1 _) | exact hS4b
            refine wpAnyH_take (i := 0) (v := ?vvc0) (by (simp only [List.getElem?_toArray, List.getElem?_cons_zero, List.getElem?_cons_succ]) <;> rfl) (by kernel_rfl) (by kernel_rfl) (by kernel_rfl) ?hqc0 (Or.inl ⟨by rfl, ?hyc0⟩) (by assumption) ?_
            case hqc0 => exact fun _ _ _ h => h
            case hyc0 => ((intro w hSw; (try dsimp only at hSw); go_simp) <;> (with_reducible rfl))
            (try simp only [Act.put, List.setIfInBounds_toArray, List.set_cons_zero, List.set_cons_succ])
            refine wpAnyH_take (i := 1) (v := ?vvc1) (by (simp only [List.getElem?_toArray, List.getElem?_cons_zero, List.getElem?_cons_succ]) <;> rfl) (by kernel_rfl) (by kernel_rfl) (by kernel_rfl) ?hqc1 (Or.inl ⟨by rfl, ?hyc1⟩) (by assumption) ?_
            case hqc1 => exact fun _ _ _ h => h
            case hyc1 => ((intro w hSw; (try dsimp only at hSw); go_simp) <;> (with_reducible rfl))
            (try simp only [Act.put, List.setIfInBounds_toArray, List.set_cons_zero, List.set_cons_succ])
            refine wpAnyH_take (i := 2) (v := ?vvc2) (by (simp only [List.getElem?_toArray, List.getElem?_cons_zero, List.getElem?_cons_succ]) <;> rfl) (by kernel_rfl) (by kernel_rfl) (by kernel_rfl) ?hqc2 (Or.inl ⟨by rfl, ?hyc2⟩) (by assumption) ?_
            case hqc2 => exact fun _ _ _ h => h
            case hyc2 => ((intro w hSw; (try dsimp only at hSw); go_simp) <;> (with_reducible rfl))
            (try simp only [Act.put, List.setIfInBounds_toArray, List.set_cons_zero, List.set_cons_succ])
            refine wpAnyH_take (i := 3) (v := ?vvc3) (by (simp only [List.getElem?_toArray, List.getElem?_cons_zero, List.getElem?_cons_succ]) <;> rfl) (by kernel_rfl) (by kernel_rfl) (by kernel_rfl) ?hqc3 (Or.inl ⟨by rfl, ?hyc3⟩) (by assumption) ?_
            case hqc3 => exact fun _ _ _ h => h
            case hyc3 => ((intro w hSw; (try dsimp only at hSw); go_simp) <;> (with_reducible rfl))
            (try simp only [Act.put, List.setIfInBounds_toArray, List.set_cons_zero, List.set_cons_succ])
            refine wpAnyH_take (i := 4) (v := ?vvc4) (by (simp only [List.getElem?_toArray, List.getElem?_cons_zero, List.getElem?_cons_succ]) <;> rfl) (by kernel_rfl) (by kernel_rfl) (by kernel_rfl) ?hqc4 (Or.inl ⟨by rfl, ?hyc4⟩) (by assumption) ?_
            case hqc4 => exact fun _ _ _ h => h
            case hyc4 => ((intro w hSw; (try dsimp only at hSw); go_simp) <;> (with_reducible rfl))
            (try simp only [Act.put, List.setIfInBounds_toArray, List.set_cons_zero, List.set_cons_succ])
            refine wpAnyH_take (i := 5) (v := ?vvc5) (by (simp only [List.getElem?_toArray, List.getElem?_cons_zero, List.getElem?_cons_succ]) <;> rfl) (by kernel_rfl) (by kernel_rfl) (by kernel_rfl) ?hqc5 (Or.inl ⟨by rfl, ?hyc5⟩) (by assumption) ?_
            case hqc5 => exact fun _ _ _ h => h
            case hyc5 => ((intro w hSw; (try dsimp only at hSw); go_simp) <;> (with_reducible rfl))
            (try simp only [Act.put, List.setIfInBounds_toArray, List.set_cons_zero, List.set_cons_succ])
            refine wpAnyH_take (i := 6) (v := ?vvc6) (by (simp only [List.getElem?_toArray, List.getElem?_cons_zero, List.getElem?_cons_succ]) <;> rfl) (by kernel_rfl) (by kernel_rfl) (by kernel_rfl) ?hqc6 (Or.inl ⟨by rfl, ?hyc6⟩) (by assumption) ?_
            case hqc6 => exact fun _ _ _ h => h
            case hyc6 => ((intro w hSw; (try dsimp only at hSw); go_simp) <;> (with_reducible rfl))
            (try simp only [Act.put, List.setIfInBounds_toArray, List.set_cons_zero, List.set_cons_succ])
            refine wpAnyH_ready (rs := [7]) (by kernel_rfl) (by simp) ?_
            refine AllReadyH.cons (by (simp only [List.getElem?_toArray, List.getElem?_cons_zero, List.getElem?_cons_succ]) <;> rfl) (fun K hK => ?_) AllReadyH.nil
            go_simp
            refine hK.out _ _ ?_ (fun hHeld => ?_)
            · (try dsimp only)
              first | exact hS4.out _ be1 | exact hS4.out _ (bl_al be1 _) | exact hS4b
            (try clear hK K)
            (try simp only [Act.put, List.setIfInBounds_toArray, List.set_cons_zero, List.set_cons_succ])
            refine wpAnyH_ready (rs := [8]) (by kernel_rfl) (by simp) ?_
            refine AllReadyH.cons (by (simp only [List.getElem?_toArray, List.getElem?_cons_zero, List.getElem?_cons_succ]) <;> rfl) (fun K hK => ?_) AllReadyH.nil
            refine wp_append_run _ _ _ _ rfl _ _ _ _ rfl rfl hap ?_
            (try go_wp2_with fail)
            refine hK.out _ _ ?_ (fun hHeld => ?_)
            · (try dsimp only)
              first | exact hS4.out _ be1 | exact hS4.out _ (bl_al be1 _) | exact hS4b
            (try clear hK K)
            (try simp only [Act.put, List.setIfInBounds_toArray, List.set_cons_zero, List.set_cons_succ])
            refine wpAnyH_take (i := 9) (v := ?vvc9) (by (simp only [List.getElem?_toArray, List.getElem?_cons_zero, List.getElem?_cons_succ]) <;> rfl) (by kernel_rfl) (by kernel_rfl) (by kernel_rfl) ?hqc9 (Or.inl ⟨by rfl, ?hyc9⟩) (by assumption) ?_
            case hqc9 => exact fun _ _ _ h => h
            case hyc9 => ((intro w hSw; (try dsimp only at hSw); go_simp) <;> (with_reducible rfl))
            (try simp only [Act.put, List.setIfInBounds_toArray, List.set_cons_zero, List.set_cons_succ])
            refine wpAnyH_done (by kernel_rfl) ?_ _
            go_upto_region 9 with fail
            go_quiet (fail)
            go_wp2_with fail
            go_roundw
            case rel =>
              have hmr := hmr.out
              have hmf := hmf.out
              rw [List.map_cons, List.map_cons, mrg_sum heq.out (by show p.q + q.q ≠ 0; rw [← hrq.out]; exact h0.out)] at hmr
              rw [List.map_cons, List.map_cons, mfB_eq heq.out, show fitB (p.qt.1 + q.qt.1) = true from hff.out, Bool.true_and] at hmf
              have hna' : la.length = na - 1 := by rw [hna.out]; simp
              have hnb' : lb.length = nb - 1 := by rw [hnb.out]; simp
              have hPt := hPa.out.tail (ca := ca) (by rw [← hna.out]; exact lca)
              have hPu := hPb.out.tail (ca := cb) (by rw [← hnb.out]; exact lcb)
              rw [hAt] at hPt
              rw [hBt] at hPu
              refine ⟨la, lb, P ++ [r], At, Bt, ca - 1, cb - 1, by rw [hna'], by rw [hnb'], by rw [hnp.out]; simp, hPt, hPu, by omega, by omega, by omega, by omega, fun r hr => fa.out r (by simp [hr]), fun r hr => fb.out r (by simp [hr]), ?_, hmf, by simp; rw [← hnp.out]; omega, hXn.out.drewN _⟩
              rw [List.map_append, List.append_assoc]
              show List.map Pt.qt P ++ ((r.q, r.t) :: mrg _ _) = _
              rw [hrq.out, hrt.out]
              exact hmr
            case measure => simp only [lenV]; omega
end Nt

end Go.Proofs.YtgimmmmpollkhaaGreat

namespace Go.Proofs.YtgimmmmpollkhaaGreat

open Go.ChangeShapes Go.RowKit

namespace Nt
set_option maxRecDepth 100000
set_option linter.unusedSimpArgs false
set_option linter.unusedVariables false

set_option maxHeartbeats 8000000 in
/-- linear.Add, of what may not be. -/
theorem ladd_no (A B : Option Addr) (l m : List Pt) (kc kd : Nat) (c d : Pt) (w : World) (hl : Pl w A l) (hm : Pl w B m) (fl : ∀ p ∈ l, p.Few) (fm : ∀ p ∈ m, p.Few) (hc : c.At w) (hd : d.At w) (fc : c.Few) (fd : d.Few) (nl : l.length ≤ 1000) (nm : m.length ≤ 1000) (hno : (pvB (-1) l && c.ok) = false ∨ (pvB (-1) m && d.ok) = false) :
    Calls Tryz.prog 12 #[polyV A l.length kc c, polyV B m.length kd d] w (PNo 1 w) := by
  obtain ⟨v1, h1⟩ : ∃ v, (pvB (-1) l && c.ok) = v := ⟨_, rfl⟩
  obtain ⟨v2, h2⟩ : ∃ v, (pvB (-1) m && d.ok) = v := ⟨_, rfl⟩
  have hV := hide (fun W (b : Below w.heap.size w W) => lvalid_any A l kc c W (hl.next b) (hc.next b) fl fc nl v1 h1)
  have hK := hide (fun W (b : Below w.heap.size w W) => lvalid_any B m kd d W (hm.next b) (hd.next b) fm fd nm v2 h2)
  rw [h1, h2] at hno
  obtain ⟨n, hnn⟩ : ∃ n, n = l.length := ⟨_, rfl⟩
  obtain ⟨k, hkk⟩ : ∃ k, k = m.length := ⟨_, rfl⟩
  have hst := hide (fun W (b : Below (V3 w c d A B n kc k kd).heap.size (V3 w c d A B n kc k kd) W) => (Ax.start w c d A B n kc k kd 0 (by omega) b).2)
  have hb0 : Below w.heap.size w (V3 w c d A B n kc k kd) := bl_al (bl_al (bl_al (.refl _ _) _) _) _
  have hbz := hide (hst.out _ (Below.refl _ _))
  clear hl hm fl fm hc hd fc fd h1 h2
  rw [← hnn] at hV
  rw [← hkk] at hK
  rw [← hnn, ← hkk]
  clear hnn hkk
  unfold polyV at *
  unfold V3 zP at hb0 hst hbz
  replace hst := hide hst.out
  replace hb0 := hide hb0
  generalize c.xs.length = i1 at *
  generalize c.ys.length = i2 at *
  generalize d.xs.length = j1 at *
  generalize d.ys.length = j2 at *
  obtain ⟨⟨x0, x1, x2, x3⟩, ⟨y0, y1, y2, y3⟩, _⟩ := hbz.out
  cases v1 with
  | false =>
    clear hno
    go_enter Tryz.func12, Tryz.ntmps12
    go_wp2_with (go_at_call 25; (with_reducible refine (hV.out _ hb0.out).mono ?_); rintro e w1 ⟨rfl, hb⟩; clear x0 x1 x2 x3 y0 y1 y2 y3; obtain ⟨_, _, hX, hbw⟩ := hst.out w1 hb; have r0 := hX.cell (j := 0) rfl; have r1 := hX.cell (j := 1) rfl; have r2 := hX.cell (j := 2) rfl; have r3 := hX.cell (j := 3) rfl; have s0 := hX.free 0; have s1 := hX.free 1; have s2 := hX.free 2; have s3 := hX.free 3; clear hX; replace hbw := hide hbw; clear hb)
    have hO4 := off4 (w.heap.size + 1 + 1) w1 (.slice none 0 0) (.bool false) (.slice none 0 0) (.slice none 0 0)
    exact bodyPost_ret (v := .tuple #[.agg #[.slice none 0 0, .bool false, .slice none 0 0, .slice none 0 0], .int .i64 1]) (by simp [results, Tryz.results12, go_sem, r0, r1, r2, r3]) rfl ⟨rfl, hbw.out.trans (hO4.below hbw.out.size (fun b hb => by simp at hb; omega))⟩
  | true =>
    obtain rfl : v2 = false := by rcases hno with h | h; cases h; exact h
    clear hno
    go_enter Tryz.func12, Tryz.ntmps12
    go_wp2_with (first
      | (go_at_call 25; (with_reducible refine (hV.out _ hb0.out).mono ?_); rintro e w1 ⟨rfl, hb⟩; clear x0 x1 x2 x3 y0 y1 y2 y3; obtain ⟨⟨x0, x1, x2, x3⟩, ⟨y0, y1, y2, y3⟩, _, hbw⟩ := hst.out w1 hb; replace hbw := hide hbw; replace hb := hide hb; clear hV)
      | (go_at_call 25; (with_reducible refine (hK.out _ hbw.out).mono ?_); rintro e w2 ⟨rfl, hb2⟩; clear x0 x1 x2 x3 y0 y1 y2 y3; obtain ⟨_, _, hX, hbw2⟩ := hst.out w2 (bl_trans hb.out hb2); have r0 := hX.cell (j := 0) rfl; have r1 := hX.cell (j := 1) rfl; have r2 := hX.cell (j := 2) rfl; have r3 := hX.cell (j := 3) rfl; have s0 := hX.free 0; have s1 := hX.free 1; have s2 := hX.free 2; have s3 := hX.free 3; clear hX; replace hbw2 := hide hbw2; clear hb2))
    have hO4 := off4 (w.heap.size + 1 + 1) w2 (.slice none 0 0) (.bool false) (.slice none 0 0) (.slice none 0 0)
    exact bodyPost_ret (v := .tuple #[.agg #[.slice none 0 0, .bool false, .slice none 0 0, .slice none 0 0], .int .i64 1]) (by simp [results, Tryz.results12, go_sem, r0, r1, r2, r3]) rfl ⟨rfl, hbw2.out.trans (hO4.below hbw2.out.size (fun b hb => by simp at hb; omega))⟩
end Nt

end Go.Proofs.YtgimmmmpollkhaaGreat

namespace Go.Proofs.YtgimmmmpollkhaaGreat

open Go.ChangeShapes Go.RowKit

namespace Nt
set_option maxRecDepth 100000
set_option linter.unusedSimpArgs false
set_option linter.unusedVariables false

theorem Gw.set3 {B g m : Nat} {w : World} {l : List Pt} (h : Gw B w g m l) {i : Nat} (hi : i < l.length) (p : Pt) (ht : p.t = l[i].t) :
    Gw B (((w.setCell ⟨g, i * 4, none⟩ (.bool p.s)).setCell ⟨g, i * 4 + 1, none⟩ (.slice p.A p.xs.length p.a)).setCell ⟨g, i * 4 + 2, none⟩ (.slice p.B p.ys.length p.b)) g m (l.set i p) := by
  obtain ⟨⟨cur, hc, hsz, htk, hno⟩, hB, hrm, hbig⟩ := h
  have hk : Bk g cur 83 w := hc
  have hk3 := ((hk.set (j := i * 4) (.bool p.s) rfl).set (j := i * 4 + 1) (.slice p.A p.xs.length p.a) rfl).set (j := i * 4 + 2) (.slice p.B p.ys.length p.b) rfl
  have hlen : (l.set i p).length = l.length := List.length_set
  refine ⟨⟨_, hk3, by simp [hsz], ?_, fun v hv => ?_⟩, hB, by rw [hlen]; exact hrm, hbig⟩
  · apply List.ext_getElem?
    intro j
    rw [hlen, List.getElem?_take]
    by_cases hj : j < l.length * 4
    · rw [if_pos hj]
      have hjj : j = j / 4 * 4 + j % 4 := by omega
      have hi' : j / 4 < l.length := by omega
      have e1 := pcs_get (l.set i p) (j / 4) (j % 4) (by rw [hlen]; exact hi') (by omega)
      have e2 := pcs_get l (j / 4) (j % 4) hi' (by omega)
      rw [← hjj] at e1 e2
      rw [e1]
      have e3 : (cur.toList.take (l.length * 4))[j]? = cur[j]? := by rw [List.getElem?_take, if_pos hj, Array.getElem?_toList]
      rw [htk, e2] at e3
      rw [Array.getElem?_toList]
      simp only [Array.getElem?_setIfInBounds, Array.size_setIfInBounds]
      have h4 : j % 4 = 0 ∨ j % 4 = 1 ∨ j % 4 = 2 ∨ j % 4 = 3 := by omega
      by_cases he : j / 4 = i
      · have hget : (l.set i p)[j / 4]'(by rw [hlen]; exact hi') = p := by simp [he]
        rw [hget]
        rcases h4 with h4 | h4 | h4 | h4
        · rw [if_neg (by omega), if_neg (by omega), if_pos (by omega), if_pos (by omega), h4]
          rfl
        · rw [if_neg (by omega), if_pos (by omega), if_pos (by omega), h4]
          rfl
        · rw [if_pos (by omega), if_pos (by omega), h4]
          rfl
        · rw [if_neg (by omega), if_neg (by omega), if_neg (by omega), ← e3, h4]
          have : l[j / 4].t = l[i].t := by congr 1; simp [he]
          show some (Value.int .i64 l[j / 4].t) = some (.int .i64 p.t)
          rw [this, ht]
      · have hget : (l.set i p)[j / 4]'(by rw [hlen]; exact hi') = l[j / 4] := by
          rw [List.getElem_set]
          rw [if_neg (fun e => he e.symm)]
        rw [hget, ← e3]
        rw [if_neg (by omega), if_neg (by omega), if_neg (by omega)]
    · rw [if_neg hj]
      symm
      rw [List.getElem?_eq_none_iff, pcs_len, hlen]
      omega
  · have hv := Array.mem_toList_iff.1 hv
    rcases Array.mem_or_eq_of_mem_setIfInBounds hv with hv | rfl
    · rcases Array.mem_or_eq_of_mem_setIfInBounds hv with hv | rfl
      · rcases Array.mem_or_eq_of_mem_setIfInBounds hv with hv | rfl
        · exact hno v (Array.mem_toList_iff.2 hv)
        · rfl
      · rfl
    · rfl
end Nt

end Go.Proofs.YtgimmmmpollkhaaGreat

namespace Go.Proofs.YtgimmmmpollkhaaGreat

open Go.ChangeShapes Go.RowKit

namespace Nt
set_option maxRecDepth 100000
set_option linter.unusedSimpArgs false
set_option linter.unusedVariables false

theorem Gw.free {B g m : Nat} {w : World} {l : List Pt} (h : Gw B w g m l) (j : Nat) : w.frozen? ⟨g, j, none⟩ = false := by
  obtain ⟨cur, hc, _⟩ := h.ex
  exact Bk.free (cur := cur) (t := 83) hc j
/-- In Add's loop: the sum's box at gs; its parts' row at g. -/
structure Ay (w : World) (g mm gs n : Nat) (r : Pt) (l : List Pt) (W : World) : Prop where
  b : Below w.heap.size w W
  s : C4 gs (.slice (some ⟨g, 0, none⟩) n mm) (.bool r.s) (.slice r.A r.xs.length r.a) (.slice r.B r.ys.length r.b) W
  rb : Bk (w.heap.size + 1 + 1) zP 27 W
  gw : Gw w.heap.size W g mm l
  ok : ∀ p ∈ l, p.Ok ∧ p.At W
  ra : r.At W
  ne : gs ≠ g ∧ w.heap.size + 1 + 1 ≠ g
section

variable {w W W' : World} {g mm gs n : Nat} {r : Pt} {l : List Pt}
theorem Ay.next (h : Ay w g mm gs n r l W) (hb : Below W.heap.size W W') : Ay w g mm gs n r l W' :=
  ⟨bl_trans h.b hb, h.s.next hb, h.rb.next hb, h.gw.next hb, fun p hp => ⟨(h.ok p hp).1, (h.ok p hp).2.next hb⟩, h.ra.next hb, h.ne⟩
theorem Ay.set (h : Ay w g mm gs n r l W) {i : Nat} (hi : i < l.length) (p : Pt) (hp : p.Ok) (aP : p.At W) (ht : p.t = l[i].t) :
    Ay w g mm gs n r (l.set i p) (((W.setCell ⟨g, i * 4, none⟩ (.bool p.s)).setCell ⟨g, i * 4 + 1, none⟩ (.slice p.A p.xs.length p.a)).setCell ⟨g, i * 4 + 2, none⟩ (.slice p.B p.ys.length p.b)) := by
  have hO : Off [g] W (((W.setCell ⟨g, i * 4, none⟩ (.bool p.s)).setCell ⟨g, i * 4 + 1, none⟩ (.slice p.A p.xs.length p.a)).setCell ⟨g, i * 4 + 2, none⟩ (.slice p.B p.ys.length p.b)) :=
    (((Off.refl [g] W).setCell _ _ (.inl (by simp))).setCell _ _ (.inl (by simp))).setCell _ _ (.inl (by simp))
  have hg := h.gw.base
  refine ⟨h.b.trans (hO.below h.b.size (fun b hb => by simp at hb; omega)), h.s.off hO (by simpa using h.ne.1), h.rb.off hO (by simpa using h.ne.2), h.gw.set3 hi p ht, fun q hq => ?_, h.gw.at_ h.ra hO, h.ne⟩
  rcases List.mem_or_eq_of_mem_set hq with hq | rfl
  · exact ⟨(h.ok q hq).1, h.gw.at_ (h.ok q hq).2 hO⟩
  · exact ⟨hp, h.gw.at_ aP hO⟩
end
theorem cell_far {g a j : Nat} {v : Value} {W W' : World} (hO : Off [g] W W') (h : W.cell? ⟨a, j, none⟩ = some v) (hn : a ≠ g) : W'.cell? ⟨a, j, none⟩ = some v := hO.cell h (cell_in h) (by simpa using hn)
theorem off3i (g i : Nat) (W : World) (a b c : Value) : Off [g] W (((W.setCell ⟨g, i * 4, none⟩ a).setCell ⟨g, i * 4 + 1, none⟩ b).setCell ⟨g, i * 4 + 2, none⟩ c) :=
  (((Off.refl [g] W).setCell _ _ (.inl (by simp))).setCell _ _ (.inl (by simp))).setCell _ _ (.inl (by simp))
theorem map_set {l : List Pt} {i : Nat} (hi : i < l.length) {p : Pt} (h : p.qt = l[i].qt) : (l.set i p).map Pt.qt = l.map Pt.qt := by
  rw [List.map_set, h]
  rw [show l[i].qt = (l.map Pt.qt)[i]'(by simpa using hi) by simp]
  exact List.set_getElem_self _

set_option maxHeartbeats 16000000 in
/-- linear.Add, of what may be. -/
theorem lsum_ok (A B : Option Addr) (l m : List Pt) (kc kd : Nat) (c d : Pt) (w : World) (hl : Pl w A l) (hm : Pl w B m) (fl : ∀ p ∈ l, p.Ok) (fm : ∀ p ∈ m, p.Ok) (vl : pvB (-1) l = true) (vm : pvB (-1) m = true) (hc : c.At w) (hd : d.At w) (fc : c.Ok) (fd : d.Ok) (nl : l.length ≤ 1000) (nm : m.length ≤ 1000) (cl : l.length ≤ kc) (cm : m.length ≤ kd) (ml : kc ≤ maxLen) (mm : kd ≤ maxLen) :
    Calls Tryz.prog 12 #[polyV A l.length kc c, polyV B m.length kd d] w (ScO w (mfB (l.map Pt.qt) (m.map Pt.qt) && fitB (c.q + d.q)) (mrg (l.map Pt.qt) (m.map Pt.qt)) (c.q + d.q)) := by
  have hV := hide (fun W (b : Below w.heap.size w W) => lvalid_any A l kc c W (hl.next b) (hc.next b) (fun p hp => (fl p hp).few) fc.few nl true (by rw [vl, fc.valid]; rfl))
  have hK := hide (fun W (b : Below w.heap.size w W) => lvalid_any B m kd d W (hm.next b) (hd.next b) (fun p hp => (fm p hp).few) fd.few nm true (by rw [vm, fd.valid]; rfl))
  have hA := hide (fun W (b : Below w.heap.size w W) => added_q A B l m kc kd c d W (hl.next b) (hm.next b) fl fm (hc.next b) (hd.next b) fc fd nl nm cl cm ml mm)
  have hCp := hide (fun (p : Pt) (hp : p.Ok) W (a : p.At W) => copied_p hp W a)
  generalize (mfB (l.map Pt.qt) (m.map Pt.qt) && fitB (c.q + d.q)) = bb at *
  generalize mrg (l.map Pt.qt) (m.map Pt.qt) = LL at *
  generalize c.q + d.q = rr at *
  obtain ⟨n, hnn⟩ : ∃ n, n = l.length := ⟨_, rfl⟩
  obtain ⟨k, hkk⟩ : ∃ k, k = m.length := ⟨_, rfl⟩
  have hst := hide (fun W (b : Below (V3 w c d A B n kc k kd).heap.size (V3 w c d A B n kc k kd) W) => (Ax.start w c d A B n kc k kd 0 (by omega) b).2)
  have hb0 : Below w.heap.size w (V3 w c d A B n kc k kd) := bl_al (bl_al (bl_al (.refl _ _) _) _) _
  have hsz : (V3 w c d A B n kc k kd).heap.size = w.heap.size + 1 + 1 + 1 := by simp [V3]
  have hbz := hide (hst.out _ (Below.refl _ _))
  clear hl hm fl fm hc hd fc fd vl vm nl nm cl cm ml mm
  rw [← hnn] at hV hA
  rw [← hkk] at hK hA
  rw [← hnn, ← hkk]
  clear hnn hkk
  unfold polyV at *
  unfold rv at hCp
  unfold V3 zP at hb0 hst hbz hsz
  replace hst := hide hst.out
  replace hb0 := hide hb0
  replace hsz := hide hsz
  generalize c.xs.length = i1 at *
  generalize c.ys.length = i2 at *
  generalize d.xs.length = j1 at *
  generalize d.ys.length = j2 at *
  obtain ⟨⟨x0, x1, x2, x3⟩, ⟨y0, y1, y2, y3⟩, _⟩ := hbz.out
  go_enter Tryz.func12, Tryz.ntmps12
  go_wp2_with (first
    | (go_at_call 25; (with_reducible refine (hV.out _ hb0.out).mono ?_); rintro e w1 ⟨rfl, hb⟩; clear x0 x1 x2 x3 y0 y1 y2 y3; obtain ⟨⟨x0, x1, x2, x3⟩, ⟨y0, y1, y2, y3⟩, _, hbw⟩ := hst.out w1 hb; replace hbw := hide hbw; replace hb := hide hb; clear hV)
    | (go_at_call 25; (with_reducible refine (hK.out _ hbw.out).mono ?_); rintro e w2 ⟨rfl, hb2⟩; clear x0 x1 x2 x3 y0 y1 y2 y3; obtain ⟨⟨x0, x1, x2, x3⟩, ⟨y0, y1, y2, y3⟩, hR, hbw2⟩ := hst.out w2 (bl_trans hb.out hb2); have hs2 := (bl_trans hb.out hb2).size; rw [hsz.out] at hs2; replace hs2 := hide hs2; replace hbw2 := hide hbw2; replace hR := hide hR; clear hb2)
    | (go_at_call 53; (with_reducible refine (hA.out _ hbw2.out).mono ?_); rintro e w3 (⟨hbt, g, mm, l', r, rfl, hL, hr, hG, hok, hra, hrok, hb3⟩ | ⟨hbf, rfl, hb3⟩)))
  · have hlt3 := hG.lt
    have hn63 : l'.length ≤ 9223372036854775807 := by have h1 := hG.room; have h2 := hG.big; unfold maxLen at h2; omega
    have hgb := hG.base
    have Y : Ay w g mm w3.heap.size l'.length r l' (w3.alloc (.cells #[.slice (some ⟨g, 0, none⟩) l'.length mm, .bool r.s, .slice r.A r.xs.length r.a, .slice r.B r.ys.length r.b] 27)) :=
      ⟨bl_al (bl_trans hbw2.out hb3) _, C4.new _ _ _ _ _ _, (hR.out.next hb3).al _, (hG.mono hbw2.out.size).next (bl_al (.refl _ _) _), fun p hp => ⟨(hok p hp).1, (hok p hp).2.next (bl_al (.refl _ _) _)⟩, hra.next (bl_al (.refl _ _) _), by omega, by have := hs2.out; omega⟩
    clear x0 x1 x2 x3 y0 y1 y2 y3 hR hbw hbw2 hb3 hG hok hra hs2 hst hsz hb hb0 hbz hlt3 hgb hK hA
    obtain ⟨n', hn'⟩ : ∃ x, x = l'.length := ⟨_, rfl⟩
    rw [← hn'] at Y hn63 ⊢
    obtain ⟨x0, x1, x2, x3⟩ := Y.s
    replace Y := hide Y; replace hn' := hide hn'; replace hL := hide hL; replace hr := hide hr
    generalize w3.heap.size = gs at *
    go_wp2_with fail
    clear x0 x1 x2 x3
    go_loopw [28] (fun ix wr => ∃ (i : Nat) (lc : List Pt), i ≤ n' ∧ ix = .int .i64 (i : Int) ∧ lc.length = n' ∧ lc.map Pt.qt = LL ∧ Ay w g mm gs n' r lc wr) (fun ix _ => n' - (intOf ix).toNat)
    case atStart => exact ⟨0, l', Nat.zero_le _, rfl, hn'.out.symm, hL.out, Y.out⟩
    case round =>
      obtain ⟨i, lc, hi, rfl, hlc, hmap, hY⟩ := hrel
      obtain ⟨x0, x1, x2, x3⟩ := hY.s
      by_cases hlt : i < n'
      · have hil : i < lc.length := by omega
        obtain ⟨c0, c1, c2, c3⟩ := hY.gw.cells hil
        rw [Nat.zero_add] at c0 c1 c2 c3
        obtain ⟨pok, pat⟩ := hY.ok _ (List.getElem_mem hil)
        have hb1 : Below wr.heap.size wr (wr.alloc (.cells #[.bool lc[i].s, .slice lc[i].A lc[i].xs.length lc[i].a, .slice lc[i].B lc[i].ys.length lc[i].b, .int .i64 lc[i].t] 83)) := bl_al (.refl _ _) _
        have hXp := hide (C4.new (.bool lc[i].s) (.slice lc[i].A lc[i].xs.length lc[i].a) (.slice lc[i].B lc[i].ys.length lc[i].b) (.int .i64 lc[i].t) 83 wr)
        have hY1 := hide (hY.next hb1)
        have hCq := hide (fun W (b : Below wr.heap.size wr W) => hCp.out lc[i] pok W (pat.next b))
        generalize hpe : lc[i] = p at *
        replace hpe := hide hpe
        have hgl0 := hY.gw.lt
        clear hY pok pat
        generalize p.xs.length = p1 at *
        generalize p.ys.length = p2 at *
        have hgl := hY1.out.gw.lt
        have hgw : g < wr.heap.size := hgl0
        have hne1 := hY1.out.ne.1
        have be1 : Below wr.heap.size wr ((wr.alloc (.cells #[.bool p.s, .slice p.A p1 p.a, .slice p.B p2 p.b, .int .i64 p.t] 83)).drew) := bl_trans hb1 (((Off.refl [] (wr.alloc (.cells #[.bool p.s, .slice p.A p1 p.a, .slice p.B p2 p.b, .int .i64 p.t] 83))).drew).below (Nat.le_refl _) (by simp))
        have hS := hide (fun W (b : Below (wr.alloc (.cells #[.bool p.s, .slice p.A p1 p.a, .slice p.B p2 p.b, .int .i64 p.t] 83)).heap.size (wr.alloc (.cells #[.bool p.s, .slice p.A p1 p.a, .slice p.B p2 p.b, .int .i64 p.t] 83)) W) => And.intro (hY1.out.next b).s.1 (And.intro (hXp.out.next b).1 (And.intro (hXp.out.next b).2.1 (hXp.out.next b).2.2.1)))
        have bf1 : Below (wr.alloc (.cells #[.bool p.s, .slice p.A p1 p.a, .slice p.B p2 p.b, .int .i64 p.t] 83)).heap.size (wr.alloc (.cells #[.bool p.s, .slice p.A p1 p.a, .slice p.B p2 p.b, .int .i64 p.t] 83)) (wr.alloc (.cells #[.bool p.s, .slice p.A p1 p.a, .slice p.B p2 p.b, .int .i64 p.t] 83)).drew := ((Off.refl [] (wr.alloc (.cells #[.bool p.s, .slice p.A p1 p.a, .slice p.B p2 p.b, .int .i64 p.t] 83))).drew).below (Nat.le_refl _) (by simp)
        have hilt : (i : Int) < (n' : Int) := by omega
        go_upto_region 7 with fail
        go_region_held3 (fun W => W.cell? ⟨gs, 0, none⟩ = some (.slice (some ⟨g, 0, none⟩) n' mm) ∧ W.cell? ⟨wr.heap.size, 0, none⟩ = some (.bool p.s) ∧ W.cell? ⟨wr.heap.size, 1, none⟩ = some (.slice p.A p1 p.a) ∧ W.cell? ⟨wr.heap.size, 2, none⟩ = some (.slice p.B p2 p.b))
          (first | exact hS.out _ bf1 | exact hS.out _ bf2 | exact ⟨cell_far (off3i _ _ _ _ _ _) hSa.1 hne1, cell_far (off3i _ _ _ _ _ _) hSa.2.1 (by omega), cell_far (off3i _ _ _ _ _ _) hSa.2.2.1 (by omega), cell_far (off3i _ _ _ _ _ _) hSa.2.2.2 (by omega)⟩)
          (first | (go_at_call 54; (with_reducible refine (hCq.out _ be1).mono ?_); rintro e wa ⟨r2, rfl, hq2, hok2, hr2, hb3⟩; have bf2 := bl_trans bf1 hb3; have hSa := hS.out _ bf2; have hYa := hY1.out.next bf2; obtain ⟨v0, v1, v2, v3⟩ := hYa.gw.cells hil; rw [Nat.zero_add] at v0 v1 v2 v3; have u0 := hYa.gw.free (i * 4); have u1 := hYa.gw.free (i * 4 + 1); have u2 := hYa.gw.free (i * 4 + 2)))
        have okP : Pt.Ok ⟨r2.s, r2.A, r2.a, r2.xs, r2.B, r2.b, r2.ys, p.t⟩ := ⟨hok2.s, hok2.x, hok2.y, hok2.f⟩
        have hYn := hide (hYa.set hil ⟨r2.s, r2.A, r2.a, r2.xs, r2.B, r2.b, r2.ys, p.t⟩ okP hr2 (by rw [hpe.out]))
        have hmn := hide (map_set hil (p := ⟨r2.s, r2.A, r2.a, r2.xs, r2.B, r2.b, r2.ys, p.t⟩) (by rw [hpe.out]; exact Prod.ext hq2 rfl))
        clear hYa hSa v0 v1 v2 v3 u0 u1 u2 hS hCq okP
        go_wp2_with fail
        go_roundw
        case rel => exact ⟨i + 1, _, hlt, by go_num, by rw [List.length_set]; exact hlc, by rw [hmn.out]; exact hmap, hYn.out⟩
        case measure => simp only [intOf]; omega
      · have hmi : i = n' := by omega
        subst hmi
        have r0 := hY.rb.cell (j := 0) rfl
        have r1 := hY.rb.cell (j := 1) rfl
        have r2 := hY.rb.cell (j := 2) rfl
        have r3 := hY.rb.cell (j := 3) rfl
        have s0 := hY.rb.free 0
        have s1 := hY.rb.free 1
        have s2 := hY.rb.free 2
        have s3 := hY.rb.free 3
        have hO4 := off4 (w.heap.size + 1 + 1) wr (.slice (some ⟨g, 0, none⟩) i mm) (.bool r.s) (.slice r.A r.xs.length r.a) (.slice r.B r.ys.length r.b)
        have hfin := hide (And.intro (pl_off hY.rb (hY.gw.pl fun p hp => (hY.ok p hp).2) hO4) (And.intro (at_off hY.rb hY.ra hO4) (And.intro (fun p hp => (hY.ok p hp).1) (hY.b.trans (hO4.below hY.b.size (fun b hb => by simp at hb; omega))))))
        have hrm := hY.gw.room
        have hbg := hY.gw.big
        replace hrm := hide hrm; replace hbg := hide hbg
        replace hO4 := hide hO4
        go_wp2_with fail
        exact bodyPost_ret (v := .tuple #[.agg #[.slice (some ⟨g, 0, none⟩) i mm, .bool r.s, .slice r.A r.xs.length r.a, .slice r.B r.ys.length r.b], .int .i64 0]) (by simp [results, Tryz.results12, go_sem, r0, r1, r2, r3]) rfl (Or.inl ⟨hbt, some ⟨g, 0, none⟩, mm, lc, r, by unfold polyV; rw [hlc], hmap, hr.out, hfin.out.1, hfin.out.2.1, hfin.out.2.2.1, hrok, hfin.out.2.2.2, hrm.out, hbg.out⟩)
  · have hX := hR.out.next hb3
    have r0 := hX.cell (j := 0) rfl
    have r1 := hX.cell (j := 1) rfl
    have r2 := hX.cell (j := 2) rfl
    have r3 := hX.cell (j := 3) rfl
    have hXa := hX.al (.cells #[.slice none 0 0, .bool false, .slice none 0 0, .slice none 0 0] 27)
    clear r0 r1 r2 r3
    have r0 := hXa.cell (j := 0) rfl
    have r1 := hXa.cell (j := 1) rfl
    have r2 := hXa.cell (j := 2) rfl
    have r3 := hXa.cell (j := 3) rfl
    have s0 := hXa.free 0
    have s1 := hXa.free 1
    have s2 := hXa.free 2
    have s3 := hXa.free 3
    have hB : Bk w3.heap.size #[.slice none 0 0, .bool false, .slice none 0 0, .slice none 0 0] 27 (w3.alloc (.cells #[.slice none 0 0, .bool false, .slice none 0 0, .slice none 0 0] 27)) := Bk.new _ _ w3
    have t0 := hB.cell (j := 0) rfl
    have t1 := hB.cell (j := 1) rfl
    have t2 := hB.cell (j := 2) rfl
    have t3 := hB.cell (j := 3) rfl
    have hbb : Below w.heap.size w (w3.alloc (.cells #[.slice none 0 0, .bool false, .slice none 0 0, .slice none 0 0] 27)) := bl_al (bl_trans hbw2.out hb3) _
    clear x0 x1 x2 x3 y0 y1 y2 y3 hR hbw hbw2 hb3 hs2 hst hsz hb hb0 hbz hK hA hX hXa hB
    replace hbb := hide hbb
    generalize w3.heap.size = gs at *
    generalize w3.alloc (.cells #[.slice none 0 0, .bool false, .slice none 0 0, .slice none 0 0] 27) = w4 at *
    go_wp2_with fail
    go_loopw [28] (fun ix wr => ix = .int .i64 0 ∧ wr = w4) (fun _ _ => 0)
    case atStart => exact ⟨rfl, rfl⟩
    case round =>
      obtain ⟨rfl, rfl⟩ := hrel
      go_wp2_with fail
      exact bodyPost_ret (v := .tuple #[.agg #[.slice none 0 0, .bool false, .slice none 0 0, .slice none 0 0], .int .i64 4]) (by simp [results, Tryz.results12, go_sem, r0, r1, r2, r3]) rfl (Or.inr ⟨hbf, rfl, hbb.out.trans ((off4 _ _ _ _ _ _).below hbb.out.size (fun b hb => by simp at hb; omega))⟩)
end Nt

end Go.Proofs.YtgimmmmpollkhaaGreat

namespace Go.Proofs.YtgimmmmpollkhaaGreat

open Go.ChangeShapes Go.RowKit

namespace Nt
set_option maxRecDepth 100000
set_option linter.unusedSimpArgs false
set_option linter.unusedVariables false

/-- Terms that rise from t, of numbers that are not 0. -/
def rvB (t : Int) : List (Rat × Int) → Prop
  | [] => True
  | x :: l => t < x.2 ∧ x.1 ≠ 0 ∧ rvB x.2 l
theorem pvB_rvB {l : List Pt} (hl : ∀ p ∈ l, p.Ok) : ∀ t, pvB t l = true ↔ rvB t (l.map Pt.qt) := by
  induction l with
  | nil => intro t; exact ⟨fun _ => trivial, fun _ => rfl⟩
  | cons p l ih =>
    intro t
    have hp := hl p (by simp)
    have hq : decide (0 < p.xs.length) = true ↔ p.q ≠ 0 := by rw [decide_eq_true_eq, hp.x]; exact q_zero_len _
    show ((decide (t < p.t) && (p.ok && decide (0 < p.xs.length))) && pvB p.t l) = true ↔ t < p.t ∧ p.q ≠ 0 ∧ rvB p.t (l.map Pt.qt)
    rw [Bool.and_eq_true, Bool.and_eq_true, Bool.and_eq_true, hp.valid, hq, decide_eq_true_eq, ih (fun r hr => hl r (by simp [hr])) p.t]
    simp only [true_and]
    exact ⟨fun ⟨⟨a, b⟩, c⟩ => ⟨a, b, c⟩, fun ⟨a, b, c⟩ => ⟨⟨a, b⟩, c⟩⟩
end Nt

end Go.Proofs.YtgimmmmpollkhaaGreat
