import Derived.Test.YthabfakbdfaciaaGreatOB6
import Derived.Shelf.Strings.BuilderK
import Derived.Test.YthabfakbdfaciaaGreatOB8
import Derived.Test.YthabfakbdfaciaaGreatOB10
import Derived.BigQuiet
import Derived.Maps.OwnSet
namespace Go.Proofs.YthabfakbdfaciaaGreat
namespace Nt
set_option maxRecDepth 100000
set_option linter.unusedSimpArgs false
set_option linter.unusedVariables false
set_option maxHeartbeats 16000000
section
open Go.RowKit
/-! ### A builder among rows of words -/
theorem int_ln {n : Int} (h1 : -9223372036854775808 ≤ n) (h2 : n ≤ 9223372036854775807) : ln n.natAbs ≤ 64 := Nat.le_trans (ln_le (k := 1) (by rw [Nat.pow_one, LB_eq]; omega)) (by decide)
theorem rof_q (n d : Int) (q : Rat) (w : World) (n1 : -9223372036854775808 ≤ n) (n2 : n ≤ 9223372036854775807) (d1 : -9223372036854775808 ≤ d) (d2 : d ≤ 9223372036854775807) (d0 : d ≠ 0) (hq' : qmk (isg n != isg d) n.natAbs d.natAbs = q) : Calls Tryz.prog 32 #[.int .i64 n, .int .i64 d] w (RQ w q) := by
  have R0 := hide (fun W (_ : Below w.heap.size w W) => rof_z n W n1 n2)
  have R1 := hide (fun W (_ : Below w.heap.size w W) => rof_z d W d1 d2)
  have NW := hide (fun X Y e g W (_ : Below w.heap.size w W) s1 s2 => rnew_q n d X Y e g q W s1 s2 (int_ln n1 n2) (int_ln d1 d2) d0 hq')
  clear hq' n1 n2 d1 d2
  generalize isg n = s0 at *
  generalize isg d = s1 at *
  generalize n.natAbs = k0 at *
  generalize d.natAbs = k1 at *
  have X3 := hide (Q3.new (.bool false) (.slice none 0 0) (.slice none 0 0) w)
  have kb := hide (bl_al (.refl w.heap.size w) (.cells #[.bool false, .slice none 0 0, .slice none 0 0] 28))
  have oe : binOp .eql 3 (.int .i64 d) (.int .i64 0) = pure (.bool false) := by
    show pure (Value.bool (d == 0)) = _
    rw [beq_eq_false_iff_ne.2 d0]
  have oe' : (d == 0) = false := beq_eq_false_iff_ne.2 d0
  clear d0
  go_enter Tryz.func32, Tryz.ntmps32
  go_wp2_with (first
    | (go_at_call 61; (with_reducible refine (R0.out _ kb.out).mono ?_); rintro e v1 ⟨P1, p1, rfl, z1, hb⟩; have X3 := hide (X3.out.next hb); have kb := hide (bl_trans kb.out hb))
    | (go_at_call 61; (with_reducible refine (R1.out _ kb.out).mono ?_); rintro e v2 ⟨P2, p2, rfl, z2, hb⟩; have X3 := hide (X3.out.next hb); have kb := hide (bl_trans kb.out hb); have z1 := kp' hb z1)
    | (go_at_call 60; (with_reducible refine (NW.out P1 P2 p1 p2 _ kb.out z1 z2).mono ?_); rintro e w3 ⟨A3, c3, B3, d3, rfl, s3, t3, hb⟩; have X3 := hide (X3.out.next hb); have kb := hide (bl_trans kb.out hb); obtain ⟨u1, u2, u3, u4, u5, u6⟩ := X3.out.al (.cells #[.bool (qs q), .slice A3 (ln (qn q)) c3, .slice B3 (ln (qd q)) d3] 28); obtain ⟨y1, y2, y3, y4, y5, y6⟩ := Q3.new (.bool (qs q)) (.slice A3 (ln (qn q)) c3) (.slice B3 (ln (qd q)) d3) w3; have lx := X3.out.lt; have XA := X3; have ne1 : (⟨w.heap.size, 0, none⟩ : Addr) ≠ ⟨w.heap.size, 1, none⟩ := (by intro e; injection e with _ e2 _; exact absurd e2 (by decide)); have ne2 : (⟨w.heap.size, 0, none⟩ : Addr) ≠ ⟨w.heap.size, 2, none⟩ := (by intro e; injection e with _ e2 _; exact absurd e2 (by decide)); have ne3 : (⟨w.heap.size, 1, none⟩ : Addr) ≠ ⟨w.heap.size, 2, none⟩ := (by intro e; injection e with _ e2 _; exact absurd e2 (by decide)); have h1 : (w3.setCell ⟨w.heap.size, 0, none⟩ (.bool (qs q))).cell? ⟨w.heap.size, 1, none⟩ = some (.slice none 0 0) := (by rw [World.cell?_setCell_other _ _ _ _ ne1]; exact XA.out.2.1); have h2 : ((w3.setCell ⟨w.heap.size, 0, none⟩ (.bool (qs q))).setCell ⟨w.heap.size, 1, none⟩ (.slice A3 (ln (qn q)) c3)).cell? ⟨w.heap.size, 2, none⟩ = some (.slice none 0 0) := (by rw [World.cell?_setCell_other _ _ _ _ ne3, World.cell?_setCell_other _ _ _ _ ne2]; exact XA.out.2.2.1); have i1 := cell_next (bl_al (.refl _ _) (.cells #[.bool (qs q), .slice A3 (ln (qn q)) c3, .slice B3 (ln (qd q)) d3] 28)) h1; have i2 := cell_next (bl_al (.refl _ _) (.cells #[.bool (qs q), .slice A3 (ln (qn q)) c3, .slice B3 (ln (qd q)) d3] 28)) h2; have i3 := frozen_next (bl_al (.refl _ _) (.cells #[.bool (qs q), .slice A3 (ln (qn q)) c3, .slice B3 (ln (qd q)) d3] 28)) h1 (by rw [World.frozen?_setCell]; exact XA.out.2.2.2.2.1); have i4 := frozen_next (bl_al (.refl _ _) (.cells #[.bool (qs q), .slice A3 (ln (qn q)) c3, .slice B3 (ln (qd q)) d3] 28)) h2 (by rw [World.frozen?_setCell, World.frozen?_setCell]; exact XA.out.2.2.2.2.2); obtain ⟨r1, r2, r3, r4, r5, r6⟩ := (q3_put XA.out (.bool (qs q)) (.slice A3 (ln (qn q)) c3) (.slice B3 (ln (qd q)) d3)).al (.cells #[.bool (qs q), .slice A3 (ln (qn q)) c3, .slice B3 (ln (qd q)) d3] 28); clear h1 h2 ne1 ne2 ne3))
  refine bodyPost_ret (v := .agg #[.bool (qs q), .slice A3 (ln (qn q)) c3, .slice B3 (ln (qd q)) d3]) (by simp [results, Tryz.results32, go_sem, r1, r2, r3]) rfl (RQ.mk rfl rfl rfl ((s3.over3 XA.out (.bool (qs q)) (.slice A3 (ln (qn q)) c3) (.slice B3 (ln (qd q)) d3)).alloc (.cells #[.bool (qs q), .slice A3 (ln (qn q)) c3, .slice B3 (ln (qd q)) d3] 28)) ((t3.over3 XA.out (.bool (qs q)) (.slice A3 (ln (qn q)) c3) (.slice B3 (ln (qd q)) d3)).alloc (.cells #[.bool (qs q), .slice A3 (ln (qn q)) c3, .slice B3 (ln (qd q)) d3] 28)) (bl_al (Below.over3 kb.out (Nat.le_refl _) (.bool (qs q)) (.slice A3 (ln (qn q)) c3) (.slice B3 (ln (qd q)) d3)) (.cells #[.bool (qs q), .slice A3 (ln (qn q)) c3, .slice B3 (ln (qd q)) d3] 28)))
end
section
open Go.ChangeShapes Go.RowKit
theorem cells8 {g : Nat} {t : TypeId} {W : World} {v0 v1 v2 v3 v4 v5 v6 v7 : Value} (h : Bk g #[v0, v1, v2, v3, v4, v5, v6, v7] t W) :
    W.cell? ⟨g, 0, none⟩ = some v0 ∧ W.cell? ⟨g, 1, none⟩ = some v1 ∧ W.cell? ⟨g, 2, none⟩ = some v2 ∧ W.cell? ⟨g, 3, none⟩ = some v3 ∧ W.cell? ⟨g, 4, none⟩ = some v4 ∧ W.cell? ⟨g, 5, none⟩ = some v5 ∧ W.cell? ⟨g, 6, none⟩ = some v6 ∧ W.cell? ⟨g, 7, none⟩ = some v7 :=
  ⟨h.cell rfl, h.cell rfl, h.cell rfl, h.cell rfl, h.cell rfl, h.cell rfl, h.cell rfl, h.cell rfl⟩
theorem free6 {g : Nat} {t : TypeId} {W : World} {cur : Array Value} (h : Bk g cur t W) :
    W.frozen? ⟨g, 0, none⟩ = false ∧ W.frozen? ⟨g, 1, none⟩ = false ∧ W.frozen? ⟨g, 2, none⟩ = false ∧ W.frozen? ⟨g, 3, none⟩ = false ∧ W.frozen? ⟨g, 4, none⟩ = false ∧ W.frozen? ⟨g, 5, none⟩ = false :=
  ⟨h.free 0, h.free 1, h.free 2, h.free 3, h.free 4, h.free 5⟩
def set6 (W : World) (g : Nat) (v0 v1 v2 v3 v4 v5 : Value) : World :=
  (((((W.setCell ⟨g, 0, none⟩ v0).setCell ⟨g, 1, none⟩ v1).setCell ⟨g, 2, none⟩ v2).setCell ⟨g, 3, none⟩ v3).setCell ⟨g, 4, none⟩ v4).setCell ⟨g, 5, none⟩ v5
theorem bk_set6 {g : Nat} {t : TypeId} {W : World} {u0 u1 u2 u3 u4 u5 : Value} (h2 : Bk g #[u0, u1, u2, u3, u4, u5] t W) (v0 v1 v2 v3 v4 v5 : Value) : Bk g #[v0, v1, v2, v3, v4, v5] t (set6 W g v0 v1 v2 v3 v4 v5) := by
  have g0 : Bk g #[v0, u1, u2, u3, u4, u5] t _ := h2.set (j := 0) v0 rfl
  have g1 : Bk g #[v0, v1, u2, u3, u4, u5] t _ := g0.set (j := 1) v1 rfl
  have g2 : Bk g #[v0, v1, v2, u3, u4, u5] t _ := g1.set (j := 2) v2 rfl
  have g3 : Bk g #[v0, v1, v2, v3, u4, u5] t _ := g2.set (j := 3) v3 rfl
  have g4 : Bk g #[v0, v1, v2, v3, v4, u5] t _ := g3.set (j := 4) v4 rfl
  exact g4.set (j := 5) v5 rfl
theorem off_set6 (W : World) (g : Nat) (v0 v1 v2 v3 v4 v5 : Value) : Off [g] W (set6 W g v0 v1 v2 v3 v4 v5) :=
  ((((((Off.refl _ _).setCell _ _ (.inl (by simp))).setCell _ _ (.inl (by simp))).setCell _ _ (.inl (by simp))).setCell _ _ (.inl (by simp))).setCell _ _ (.inl (by simp))).setCell _ _ (.inl (by simp))
theorem Lks.of_bk {g : Nat} {cur : Array Value} {t : TypeId} {w w' : World} (hB : Bk g cur t w) (hn : ∀ v ∈ cur.toList, noU v = true) (hO : Off [g] w w') : Lks w w' := by
  intro A xs hs
  rcases hs with hs | ⟨b, o, e, hb, hc⟩
  · exact .inl hs
  by_cases hx : xs = []
  · exact .inl hx
  have hbg : b ≠ g := by
    rintro rfl
    have h0 := hc 0 (List.length_pos_iff.2 hx)
    rw [cell_of_row w b (o + 0) cur _ (0, 0) hB] at h0
    have := hn _ (List.mem_of_getElem? (by rw [Array.getElem?_toList]; exact h0))
    cases this
  exact .inr ⟨b, o, e, Nat.lt_of_lt_of_le hb hO.size, fun j hj => hO.cell (hc j hj) hb (by simpa using hbg)⟩
theorem zV_no : ∀ v ∈ zV.toList, noU v = true := by intro v hv; simp [zV] at hv; rcases hv with rfl | rfl | rfl | rfl <;> rfl
theorem end6 {w W F : World} {g : Nat} {v0 v1 v2 v3 v4 v5 : Value} (hb : Below w.heap.size w W) (hg : w.heap.size ≤ g) (hZ : Bk g zV 30 W) (hF : F = set6 W g v0 v1 v2 v3 v4 v5) :
    C6 g v0 v1 v2 v3 v4 v5 F ∧ Lks W F ∧ Below w.heap.size w F ∧ Off [g] W F := by
  subst hF
  have hO := off_set6 W g v0 v1 v2 v3 v4 v5
  exact ⟨C6.of (bk_set6 hZ _ _ _ _ _ _), Lks.of_bk hZ zV_no hO, hb.trans (hO.below hb.size (by intro b hb; simp at hb; omega)), hO⟩
theorem own_v (v : Vl) (w : World) (hv : v.At w) (fv : v.Few) :
    Calls Tryz.prog 37 #[v.v] w fun e w' => ∃ u : Vl, e = .returned u.v ∧ u.cn = v.cn ∧ u.At w' ∧ u.Few ∧ Below w.heap.size w w' := by
  obtain ⟨so, bo, ⟨s, A, a, xs, B, b, ys, pt⟩, el⟩ := v
  obtain ⟨W, hW⟩ : ∃ W, W = (w.alloc (.cells #[.int .i64 so, .bool bo, .bool s, .slice A xs.length a, .slice B ys.length b, .int .i64 el] 30)).alloc (.cells #[.int .i64 0, .bool false, .bool false, .slice none 0 0, .slice none 0 0, .int .i64 0] 30) := ⟨_, rfl⟩
  obtain ⟨g, hg⟩ : ∃ g, g = w.heap.size := ⟨_, rfl⟩
  have hsz : W.heap.size = g + 1 + 1 := by rw [hW, hg]; simp
  have X1 : Bk g #[.int .i64 so, .bool bo, .bool s, .slice A xs.length a, .slice B ys.length b, .int .i64 el] 30 W := by rw [hW, hg]; exact (Bk.new _ _ w).al _
  have X2 : Bk (g + 1) zV 30 W := by rw [hW, hg]; exact Bk.new1 _ _ w _
  have hbW : Below w.heap.size w W := by rw [hW]; exact ((Below.refl _ _).alloc (Nat.le_refl _) _).alloc (by simp) _
  have hA0 : Rw [] W A (us xs) := Rw.of_sl (kp' hbW hv.1) (by simp)
  obtain ⟨A', a', w1, r1, N1, b1⟩ := app_new infW Tryz.underlying26 rfl W A a _ [] hA0 (us_one xs) (by rw [us_len]; exact fv.2.1) (by decide)
  rw [us_len] at r1
  have s1 : Sl w1 A' xs := (N1 [] (by simp)).sl
  have Y1 := X1.next b1
  have Y2 := X2.next b1
  have Z1 : Bk g #[.int .i64 so, .bool bo, .bool s, .slice A' xs.length a', .slice B ys.length b, .int .i64 el] 30 (w1.setCell ⟨g, 3, none⟩ (.slice A' xs.length a')) := Y1.set (j := 3) _ rfl
  have O1 : Off [g] w1 (w1.setCell ⟨g, 3, none⟩ (.slice A' xs.length a')) := (Off.refl _ _).setCell _ _ (.inl (by simp))
  have Z2 : Bk (g + 1) zV 30 (w1.setCell ⟨g, 3, none⟩ (.slice A' xs.length a')) := Y2.set_far _ _ (by simp)
  have L1 := Lks.of_bk Y1 (by intro v hv; simp at hv; rcases hv with rfl | rfl | rfl | rfl | rfl | rfl <;> rfl) O1
  have B1 : Below w.heap.size w (w1.setCell ⟨g, 3, none⟩ (.slice A' xs.length a')) := (hbW.trans (b1.mono hbW.size)).trans (O1.below (Nat.le_trans hbW.size b1.size) (by intro b hb; simp at hb; omega))
  replace s1 := L1 _ _ s1
  obtain ⟨B', b', w2, r2, N2, b2⟩ := app_new infW Tryz.underlying26 rfl _ B b _ [] (Rw.of_sl (kp' B1 hv.2) (by simp)) (us_one ys) (by rw [us_len]; exact fv.2.2) (by decide)
  rw [us_len] at r2
  have s2 : Sl w2 B' ys := (N2 [] (by simp)).sl
  have Y3 := Z1.next b2
  have Y4 := Z2.next b2
  have B2 : Below w.heap.size w w2 := B1.trans (b2.mono B1.size)
  replace s1 := kp' b2 s1
  have O2 : Off [g] w2 (w2.setCell ⟨g, 4, none⟩ (.slice B' ys.length b')) := (Off.refl _ _).setCell _ _ (.inl (by simp))
  have L2 := Lks.of_bk Y3 (by intro v hv; simp at hv; rcases hv with rfl | rfl | rfl | rfl | rfl | rfl <;> rfl) O2
  have Z4 : Bk (g + 1) zV 30 (w2.setCell ⟨g, 4, none⟩ (.slice B' ys.length b')) := Y4.set_far _ _ (by simp)
  have B3 : Below w.heap.size w (w2.setCell ⟨g, 4, none⟩ (.slice B' ys.length b')) := B2.trans (O2.below B2.size (by intro b hb; simp at hb; omega))
  replace s1 := L2 _ _ s1
  replace s2 := L2 _ _ s2
  have hend : ∀ F, F = set6 (w2.setCell ⟨g, 4, none⟩ (.slice B' ys.length b')) (g + 1) (.int .i64 so) (.bool bo) (.bool s) (.slice A' xs.length a') (.slice B' ys.length b') (.int .i64 el) →
      C6 (g + 1) (.int .i64 so) (.bool bo) (.bool s) (.slice A' xs.length a') (.slice B' ys.length b') (.int .i64 el) F ∧ ∃ u : Vl, Value.agg #[.int .i64 so, .bool bo, .bool s, .slice A' xs.length a', .slice B' ys.length b', .int .i64 el] = u.v ∧ u.cn = (so, bo, (s, xs, ys), el) ∧ u.At F ∧ u.Few ∧ Below w.heap.size w F := fun F hF => by
    obtain ⟨e1, e2, e3, _⟩ := end6 B3 (by omega) Z4 hF
    exact ⟨e1, ⟨so, bo, ⟨s, A', a', xs, B', b', ys, 0⟩, el⟩, rfl, rfl, ⟨e2 _ _ s1, e2 _ _ s2⟩, ⟨⟨fv.1.lx, fv.1.ly, fv.1.mx, fv.1.my⟩, fv.2⟩, e3⟩
  replace hend := hide hend
  obtain ⟨p0, p1, p2, p3, p4, p5⟩ := C6.of Y1
  obtain ⟨q0, q1, q2, q3, q4, q5⟩ := C6.of Y3
  obtain ⟨y0, y1, y2, y3, y4, y5⟩ : C6 (g + 1) _ _ _ _ _ _ w2 := C6.of Y4
  have f3 := Y1.free 3
  have f4 := Y3.free 4
  obtain ⟨k0, k1, k2, k3, k4, k5⟩ := free6 Y4
  rw [hW] at r1
  rw [hg] at r2 p0 p1 p2 p3 p4 p5 q0 q1 q2 q3 q4 q5 y0 y1 y2 y3 y4 y5 f3 f4 k0 k1 k2 k3 k4 k5 hend
  clear X1 X2 Y1 Y2 Y3 Y4 Z1 Z2 Z4 O1 O2 L1 L2 B1 B2 B3 b1 b2 N1 N2 s1 s2 hv fv hA0 hbW hsz hW hg
  unfold Vl.v Vl.cn Pt.con at *
  dsimp only at *
  generalize hn1 : xs.length = n1 at *
  generalize hn2 : ys.length = n2 at *
  clear hn1 hn2
  go_enter Tryz.func37, Tryz.ntmps37
  go_wp2_with (first
    | (at_builtin; refine wpList_append_run _ rfl _ _ _ rfl _ _ _ _ rfl rfl r1 ?_)
    | (at_builtin; refine wpList_append_run _ rfl _ _ _ rfl _ _ _ _ rfl rfl r2 ?_))
  obtain ⟨F, hF⟩ : ∃ F, F = set6 (w2.setCell ⟨w.heap.size, 4, none⟩ (.slice B' n2 b')) (w.heap.size + 1) (.int .i64 so) (.bool bo) (.bool s) (.slice A' n1 a') (.slice B' n2 b') (.int .i64 el) := ⟨_, rfl⟩
  obtain ⟨⟨z0, z1, z2, z3, z4, z5⟩, u, e0, e1, e2, e3, e4⟩ := hend.out F hF
  unfold set6 at hF
  rw [← hF]
  exact bodyPost_ret (v := .agg #[.int .i64 so, .bool bo, .bool s, .slice A' n1 a', .slice B' n2 b', .int .i64 el]) (by simp [results, Tryz.results37, go_sem, z0, z1, z2, z3, z4, z5]) rfl ⟨u, congrArg _ e0, e1, e2, e3, e4⟩
def nmV (p : Pt) : Vl := ⟨1, false, p, 0⟩
theorem number_v (p : Pt) (w : World) (hp : p.At w) : Calls Tryz.prog 39 #[rv p] w fun e w' => e = .returned (nmV p).v ∧ p.At w' ∧ Below w.heap.size w w' := by
  have hb : Below w.heap.size w ((w.alloc (.cells #[.bool p.s, .slice p.A p.xs.length p.a, .slice p.B p.ys.length p.b] 28)).alloc (.cells #[.int .i64 1, .bool false, .bool p.s, .slice p.A p.xs.length p.a, .slice p.B p.ys.length p.b, .int .i64 0] 30)) := bl_al (bl_al (.refl _ _) _) _
  have hat := hide (hp.next hb)
  replace hb := hide hb
  clear hp
  unfold rv nmV Vl.v
  dsimp only
  generalize p.xs.length = i1 at *
  generalize p.ys.length = i2 at *
  go_enter Tryz.func39, Tryz.ntmps39
  go_wp2
  exact bodyPost_ret (v := .agg #[.int .i64 1, .bool false, .bool p.s, .slice p.A i1 p.a, .slice p.B i2 p.b, .int .i64 0]) (by simp [results, Tryz.results39, go_sem]) rfl ⟨rfl, hat.out, hb.out⟩
def NmV (q : Rat) (w : World) (e : Ending) (w' : World) : Prop := ∃ r : Pt, e = .returned (nmV r).v ∧ r.q = q ∧ r.Ok ∧ r.At w' ∧ Below w.heap.size w w'
theorem RQ.newR' {q : Rat} {w w' : World} {e : Ending} (h : RQ w q e w') (f : fitq q) : ∃ r : Pt, e = .returned (rv r) ∧ r.q = q ∧ r.Ok ∧ r.At w' ∧ Below w.heap.size w w' := by
  obtain ⟨A, c, B, d, rfl, sA, sB, hb⟩ := h
  exact ⟨mkP q A c B d 0, rfl, mkP_q _ _ _ _ _ _, mkP_ok f _ _ _ _ _, ⟨sA, sB⟩, hb⟩
theorem Pt.Ok.few' {p : Pt} (h : p.Ok) (v : Vl) (e : v.p = p) : v.Few := by
  subst e
  refine ⟨h.few, ?_, ?_⟩
  · rw [h.x]; exact Nat.le_trans h.f.1 (by decide)
  · rw [h.y]; exact Nat.le_trans h.f.2 (by decide)
theorem lnum_v (n d : Int) (q : Rat) (w : World) (n1 : -9223372036854775808 ≤ n) (n2 : n ≤ 9223372036854775807) (d1 : -9223372036854775808 ≤ d) (d2 : d ≤ 9223372036854775807) (d0 : d ≠ 0) (hq : qmk (isg n != isg d) n.natAbs d.natAbs = q) (f : fitq q) :
    Calls Tryz.prog 29 #[.int .i64 n, .int .i64 d] w (NmV q w) := by
  have hO := (rof_q n d q (w.alloc (.cells #[.int .i64 0, .bool false, .bool false, .slice none 0 0, .slice none 0 0, .int .i64 0] 30)) n1 n2 d1 d2 d0 hq).mono fun e w' h => RQ.newR' h f
  have hend : ∀ (W : World) (r : Pt), r.q = q → r.Ok → r.At W → Below (w.alloc (.cells #[.int .i64 0, .bool false, .bool false, .slice none 0 0, .slice none 0 0, .int .i64 0] 30)).heap.size (w.alloc (.cells #[.int .i64 0, .bool false, .bool false, .slice none 0 0, .slice none 0 0, .int .i64 0] 30)) W → Bk w.heap.size zV 30 W ∧
      ∀ F, F = set6 W w.heap.size (.int .i64 1) (.bool false) (.bool r.s) (.slice r.A r.xs.length r.a) (.slice r.B r.ys.length r.b) (.int .i64 0) →
      C6 w.heap.size (.int .i64 1) (.bool false) (.bool r.s) (.slice r.A r.xs.length r.a) (.slice r.B r.ys.length r.b) (.int .i64 0) F ∧ NmV q w (.returned (.agg #[.int .i64 1, .bool false, .bool r.s, .slice r.A r.xs.length r.a, .slice r.B r.ys.length r.b, .int .i64 0])) F := fun W r h1 h2 h3 hb => by
    have hz : Bk w.heap.size zV 30 W := (Bk.new _ _ w).next hb
    have hb2 : Below w.heap.size w W := bl_trans (bl_al (.refl _ _) _) hb
    refine ⟨hz, fun F hF => ?_⟩
    obtain ⟨e1, e2, e3, _⟩ := end6 hb2 (Nat.le_refl _) hz hF
    exact ⟨e1, r, rfl, h1, h2, ⟨e2 _ _ h3.1, e2 _ _ h3.2⟩, e3⟩
  replace hO := hide hO
  replace hend := hide hend
  clear hq n1 n2 d1 d2 d0 f
  unfold rv at hO
  go_enter Tryz.func29, Tryz.ntmps29
  go_wp2_with (go_at_call 32; (with_reducible refine hO.out.mono ?_); rintro e w1 ⟨r, rfl, h1, h2, h3, hb⟩; obtain ⟨hz, he⟩ := hend.out w1 r h1 h2 h3 hb; obtain ⟨z0, z1, z2, z3, z4, z5⟩ : C6 w.heap.size _ _ _ _ _ _ w1 := C6.of hz; obtain ⟨f0, f1, f2, f3, f4, f5⟩ := free6 hz; clear h1 h2 h3 hb hz; generalize r.xs.length = i1 at *; generalize r.ys.length = i2 at *; replace he := hide he)
  obtain ⟨F, hF⟩ : ∃ F, F = set6 w1 w.heap.size (.int .i64 1) (.bool false) (.bool r.s) (.slice r.A i1 r.a) (.slice r.B i2 r.b) (.int .i64 0) := ⟨_, rfl⟩
  clear z0 z1 z2 z3 z4 z5
  obtain ⟨⟨z0, z1, z2, z3, z4, z5⟩, e1⟩ := he.out F hF
  unfold set6 at hF
  rw [← hF]
  exact bodyPost_ret (v := .agg #[.int .i64 1, .bool false, .bool r.s, .slice r.A i1 r.a, .slice r.B i2 r.b, .int .i64 0]) (by simp [results, Tryz.results29, go_sem, z0, z1, z2, z3, z4, z5]) rfl e1
end
section
open Go.ChangeShapes Go.RowKit
theorem zfit : fitq 0 := ⟨by rw [show qn 0 = 0 from rfl, ln_zero]; decide, by rw [show qd 0 = 1 from rfl, ln_one]; decide⟩
def ZrV (sort : Int) (w : World) (e : Ending) (w' : World) : Prop := ∃ u : Vl, e = .returned u.v ∧ u.so = sort ∧ u.bo = false ∧ u.el = 0 ∧ (sort = 1 → u.p.q = 0 ∧ u.p.Ok) ∧ (sort ≠ 1 → u.p.con = (false, [], [])) ∧ u.At w' ∧ u.Few ∧ Below w.heap.size w w'
theorem NmV.zr {w w' : World} {e : Ending} (h : NmV 0 w e w') : ZrV 1 w e w' := by
  obtain ⟨r, he, h1, h2, h3, h4⟩ := h
  exact ⟨nmV r, he, rfl, rfl, rfl, fun _ => ⟨h1, h2⟩, fun h => absurd rfl h, h3, h2.few' _ rfl, h4⟩
theorem zr_no {sort : Int} (hs : sort ≠ 1) {w w' : World} (hb : Below w.heap.size w w') : ZrV sort w (.returned (.agg #[.int .i64 sort, .bool false, .bool false, .slice none 0 0, .slice none 0 0, .int .i64 0])) w' :=
  ⟨⟨sort, false, ⟨false, none, 0, [], none, 0, [], 0⟩, 0⟩, rfl, rfl, rfl, rfl, fun h => absurd h hs, fun _ => rfl, ⟨.inl rfl, .inl rfl⟩, ⟨⟨by simp [Limbs], by simp [Limbs], by simp, by simp⟩, by simp, by simp⟩, hb⟩
theorem set3_end {g : Nat} {W : World} {t : TypeId} {u v x a b c : Value} (h : Bk g #[u, v, x] t W) : Bk g #[a, b, c] t (((W.setCell ⟨g, 0, none⟩ a).setCell ⟨g, 1, none⟩ b).setCell ⟨g, 2, none⟩ c) ∧ Off [g] W (((W.setCell ⟨g, 0, none⟩ a).setCell ⟨g, 1, none⟩ b).setCell ⟨g, 2, none⟩ c) := by
  have g0 : Bk g #[a, v, x] t _ := h.set (j := 0) a rfl
  have g1 : Bk g #[a, b, x] t _ := g0.set (j := 1) b rfl
  exact ⟨g1.set (j := 2) c rfl, (((Off.refl _ _).setCell _ _ (.inl (by simp))).setCell _ _ (.inl (by simp))).setCell _ _ (.inl (by simp))⟩
theorem rz_v (w : World) : Calls Tryz.prog 41 #[] w fun e w' => ∃ r : Pt, e = .returned (rv r) ∧ r.q = 0 ∧ r.Ok ∧ r.At w' ∧ Below w.heap.size w w' := by
  have hO := hide (fun W => (rof_q 0 1 0 W (by decide) (by decide) (by decide) (by decide) (by decide) (by rfl)).mono fun e w' h => RQ.newR' h zfit)
  have hst : ∀ (W : World) (r : Pt), r.At W → Below (w.alloc (.cells #[.bool false, .slice none 0 0, .slice none 0 0] 28)).heap.size (w.alloc (.cells #[.bool false, .slice none 0 0, .slice none 0 0] 28)) W → Bk w.heap.size #[.bool false, .slice none 0 0, .slice none 0 0] 28 W ∧
      ∀ F, F = ((W.setCell ⟨w.heap.size, 0, none⟩ (.bool r.s)).setCell ⟨w.heap.size, 1, none⟩ (.slice r.A r.xs.length r.a)).setCell ⟨w.heap.size, 2, none⟩ (.slice r.B r.ys.length r.b) → Bk w.heap.size #[.bool r.s, .slice r.A r.xs.length r.a, .slice r.B r.ys.length r.b] 28 F ∧ r.At F ∧ Below w.heap.size w F := fun W r h hb => by
    have hz : Bk w.heap.size #[.bool false, .slice none 0 0, .slice none 0 0] 28 W := (Bk.new _ _ w).next hb
    refine ⟨hz, fun F hF => ?_⟩
    subst hF
    obtain ⟨k1, k2⟩ := set3_end (a := .bool r.s) (b := .slice r.A r.xs.length r.a) (c := .slice r.B r.ys.length r.b) hz
    have hL := Lks.of_bk hz (by intro v hv; simp at hv; rcases hv with rfl | rfl | rfl <;> rfl) k2
    have hb2 : Below w.heap.size w W := bl_trans (bl_al (.refl _ _) _) hb
    exact ⟨k1, ⟨hL _ _ h.1, hL _ _ h.2⟩, hb2.trans (k2.below hb2.size (by intro b hb; simp at hb; omega))⟩
  replace hst := hide hst
  unfold rv at *
  go_enter Tryz.func41, Tryz.ntmps41
  go_wp2_with (go_at_call 32; (with_reducible refine (hO.out _).mono ?_); rintro e w1 ⟨r, rfl, h1, h2, h3, hb⟩; obtain ⟨k1, k2⟩ := hst.out w1 r h3 hb; have r0 := k1.cell (j := 0) rfl; have r1 := k1.cell (j := 1) rfl; have r2 := k1.cell (j := 2) rfl; have s0 := k1.free 0; have s1 := k1.free 1; have s2 := k1.free 2; clear hb h3 k1; have k12 := hide (And.intro h1 h2); clear h1 h2; generalize hi1 : r.xs.length = i1 at *; generalize hi2 : r.ys.length = i2 at *; replace hi1 := hide hi1; replace hi2 := hide hi2; replace k2 := hide k2)
  obtain ⟨F, hF⟩ : ∃ F, F = ((w1.setCell ⟨w.heap.size, 0, none⟩ (.bool r.s)).setCell ⟨w.heap.size, 1, none⟩ (.slice r.A i1 r.a)).setCell ⟨w.heap.size, 2, none⟩ (.slice r.B i2 r.b) := ⟨_, rfl⟩
  obtain ⟨e1, e2, e3⟩ := k2.out F hF
  clear r0 r1 r2
  have r0 := e1.cell (j := 0) rfl
  have r1 := e1.cell (j := 1) rfl
  have r2 := e1.cell (j := 2) rfl
  rw [← hF]
  exact bodyPost_ret (v := .agg #[.bool r.s, .slice r.A i1 r.a, .slice r.B i2 r.b]) (by simp [results, Tryz.results41, go_sem, r0, r1, r2]) rfl ⟨r, by rw [hi1.out, hi2.out], k12.out.1, k12.out.2, e2, e3⟩
theorem of_0 (w : World) : Calls Tryz.prog 40 #[.int .i64 0, .int .i64 1] w fun e w' => ∃ r : Pt, e = .returned (rv r) ∧ r.q = 0 ∧ r.Ok ∧ r.At w' ∧ Below w.heap.size w w' :=
  (of_pos 0 1 0 w (by decide) (by decide) (by decide) (by decide) (by decide) (by rfl)).mono fun e w' h => RQ.newR' h zfit
theorem zero_v (sort : Int) (w : World) : Calls Tryz.prog 17 #[.int .i64 sort] w (ZrV sort w) := by
  by_cases hs : sort = 1
  · subst hs
    have hend : ∀ (W : World) (r : Pt), r.q = 0 → r.Ok → r.At W → Below (w.alloc (.cells #[.int .i64 0, .bool false, .bool false, .slice none 0 0, .slice none 0 0, .int .i64 0] 30)).heap.size (w.alloc (.cells #[.int .i64 0, .bool false, .bool false, .slice none 0 0, .slice none 0 0, .int .i64 0] 30)) W → Bk w.heap.size zV 30 W ∧
        ∀ F, F = set6 W w.heap.size (.int .i64 1) (.bool false) (.bool r.s) (.slice r.A r.xs.length r.a) (.slice r.B r.ys.length r.b) (.int .i64 0) →
        C6 w.heap.size (.int .i64 1) (.bool false) (.bool r.s) (.slice r.A r.xs.length r.a) (.slice r.B r.ys.length r.b) (.int .i64 0) F ∧ ZrV 1 w (.returned (.agg #[.int .i64 1, .bool false, .bool r.s, .slice r.A r.xs.length r.a, .slice r.B r.ys.length r.b, .int .i64 0])) F := fun W r h1 h2 h3 hb => by
      have hz : Bk w.heap.size zV 30 W := (Bk.new _ _ w).next hb
      have hb2 : Below w.heap.size w W := bl_trans (bl_al (.refl _ _) _) hb
      refine ⟨hz, fun F hF => ?_⟩
      obtain ⟨e1, e2, e3, _⟩ := end6 hb2 (Nat.le_refl _) hz hF
      have hN : NmV 0 w (.returned (nmV r).v) F := ⟨r, rfl, h1, h2, ⟨e2 _ _ h3.1, e2 _ _ h3.2⟩, e3⟩
      exact ⟨e1, hN.zr⟩
    have hO := fun W => of_0 W
    replace hO := hide hO
    replace hend := hide hend
    unfold rv at *
    go_enter Tryz.func17, Tryz.ntmps17
    go_wp2_with (first
      | (go_at_call 40; (with_reducible refine (hO.out _).mono ?_); rintro e w0 ⟨r, rfl, h1, h2, h3, hb0⟩; have hN := number_v r w0 h3; unfold rv nmV Vl.v at hN; dsimp only at hN; replace hN := hide hN; replace h1 := hide h1; replace h2 := hide h2; replace hb0 := hide hb0)
      | (go_at_call 39; (with_reducible refine hN.out.mono ?_); rintro e w1 ⟨rfl, h3', hb1⟩; obtain ⟨hz, he⟩ := hend.out w1 r h1.out h2.out h3' (bl_trans hb0.out hb1); obtain ⟨z0, z1, z2, z3, z4, z5⟩ : C6 w.heap.size _ _ _ _ _ _ w1 := C6.of hz; obtain ⟨f0, f1, f2, f3, f4, f5⟩ := free6 hz; clear h1 h2 h3 h3' hb0 hb1 hz; generalize r.xs.length = i1 at *; generalize r.ys.length = i2 at *; replace he := hide he))
    obtain ⟨F, hF⟩ : ∃ F, F = set6 w1 w.heap.size (.int .i64 1) (.bool false) (.bool r.s) (.slice r.A i1 r.a) (.slice r.B i2 r.b) (.int .i64 0) := ⟨_, rfl⟩
    clear z0 z1 z2 z3 z4 z5
    obtain ⟨⟨z0, z1, z2, z3, z4, z5⟩, e1⟩ := he.out F hF
    unfold set6 at hF
    rw [← hF]
    exact bodyPost_ret (v := .agg #[.int .i64 1, .bool false, .bool r.s, .slice r.A i1 r.a, .slice r.B i2 r.b, .int .i64 0]) (by simp [results, Tryz.results17, go_sem, z0, z1, z2, z3, z4, z5]) rfl e1
  · have q1 := (show binOp .eql 3 (.int .i64 sort) (.int .i64 1) = pure (.bool false) by rw [show (Value.bool false) = .bool (decide (sort = 1)) by simp [hs]]; rfl)
    have hb : Below w.heap.size w (w.alloc (.cells #[.int .i64 sort, .bool false, .bool false, .slice none 0 0, .slice none 0 0, .int .i64 0] 30)) := bl_al (.refl _ _) _
    have hz := hide (zr_no hs hb)
    clear hb
    go_enter Tryz.func17, Tryz.ntmps17
    go_wp2
    exact bodyPost_ret (v := .agg #[.int .i64 sort, .bool false, .bool false, .slice none 0 0, .slice none 0 0, .int .i64 0]) (by simp [results, Tryz.results17, go_sem]) rfl hz.out
def applyL : List Rr → List Vl → Vl → Vl
  | [], _, e => e
  | r :: l, av, e => if sameL r.l av = true then r.v else applyL l av e
theorem applyL_mem (l : List Rr) (av : List Vl) (e : Vl) : applyL l av e = e ∨ ∃ r ∈ l, applyL l av e = r.v := by
  induction l with
  | nil => exact .inl rfl
  | cons r l ih =>
    unfold applyL
    split
    · exact .inr ⟨r, by simp, rfl⟩
    · rcases ih with h | ⟨r', h, h'⟩
      · exact .inl h
      · exact .inr ⟨r', by simp [h], h'⟩
theorem applyL_step {l : List Rr} {av : List Vl} {e : Vl} {i : Nat} (hi : i < l.length) : applyL (l.drop i) av e = if sameL l[i].l av = true then l[i].v else applyL (l.drop (i + 1)) av e := by
  rw [List.drop_eq_getElem_cons hi]
  rfl
theorem applied_v (t : Tr) (C : Option Addr) (kc : Nat) (av : List Vl) (w : World) {Z Z' : List Nat} (ht : t.At Z w) (ft : t.Few) (hC : Vs Z' w C av) (fa : ∀ a ∈ av, a.Few) (na : av.length ≤ 100000) :
    Calls Tryz.prog 38 #[t.v, .slice C av.length kc] w fun e w' => e = .returned (applyL t.l av t.e).v ∧ (applyL t.l av t.e).At w' ∧ Below w.heap.size w w' := by
  obtain ⟨u, hu⟩ : ∃ u, applyL t.l av t.e = u := ⟨_, rfl⟩
  have hut : u.At w := by
    rcases applyL_mem t.l av t.e with h | ⟨r, hr, h⟩
    · rw [← hu, h]; exact ht.2
    · rw [← hu, h]; exact (ht.1.2 r hr).2
  rw [hu]
  obtain ⟨w0, hw0⟩ : ∃ W, W = (w.alloc (.cells #[.string t.nm, .slice t.A t.l.length t.c, .int .i64 t.e.so, .bool t.e.bo, .bool t.e.p.s, .slice t.e.p.A t.e.p.xs.length t.e.p.a, .slice t.e.p.B t.e.p.ys.length t.e.p.b, .int .i64 t.e.el] 37)).alloc (.cells #[.int .i64 0, .bool false, .bool false, .slice none 0 0, .slice none 0 0, .int .i64 0] 30) := ⟨_, rfl⟩
  have hb0 : Below w.heap.size w w0 := by rw [hw0]; exact bl_al (bl_al (.refl _ _) _) _
  have X1 : Bk w.heap.size #[.string t.nm, .slice t.A t.l.length t.c, .int .i64 t.e.so, .bool t.e.bo, .bool t.e.p.s, .slice t.e.p.A t.e.p.xs.length t.e.p.a, .slice t.e.p.B t.e.p.ys.length t.e.p.b, .int .i64 t.e.el] 37 w0 := by rw [hw0]; exact (Bk.new _ _ w).al _
  have X2 : Bk (w.heap.size + 1) zV 30 w0 := by rw [hw0]; exact Bk.new1 _ _ w _
  have hE : ∀ (r : Rr) (_ : r ∈ t.l) (b : Bool) (_ : sameL r.l av = b) (W : World), Below w0.heap.size w0 W → Calls Tryz.prog 64 #[.slice r.A r.l.length r.c, .slice C av.length kc, .func (.func 10) #[] #[]] W fun e w' => e = .returned (.bool b) ∧ Below W.heap.size W w' := fun r hr b hb W hW =>
    equalF_v r.A C r.c kc r.l av W (((ht.1.2 r hr).1.next hb0).next hW) ((hC.next hb0).next hW) (ft.1 r hr).1 fa (Nat.le_trans (ft.1 r hr).2.2 (by decide)) (Nat.le_trans na (by decide)) b hb
  have hR : ∀ W, Below w0.heap.size w0 W → Rl rR Z W t.A t.l := fun W hW => (ht.1.1.next hb0 rR_ok).next hW rR_ok
  have hst : ∀ W, Below w0.heap.size w0 W → Bk w.heap.size #[.string t.nm, .slice t.A t.l.length t.c, .int .i64 t.e.so, .bool t.e.bo, .bool t.e.p.s, .slice t.e.p.A t.e.p.xs.length t.e.p.a, .slice t.e.p.B t.e.p.ys.length t.e.p.b, .int .i64 t.e.el] 37 W ∧ Bk (w.heap.size + 1) zV 30 W ∧
      ∀ F, F = set6 W (w.heap.size + 1) (.int .i64 u.so) (.bool u.bo) (.bool u.p.s) (.slice u.p.A u.p.xs.length u.p.a) (.slice u.p.B u.p.ys.length u.p.b) (.int .i64 u.el) → C6 (w.heap.size + 1) (.int .i64 u.so) (.bool u.bo) (.bool u.p.s) (.slice u.p.A u.p.xs.length u.p.a) (.slice u.p.B u.p.ys.length u.p.b) (.int .i64 u.el) F ∧ u.At F ∧ Below w.heap.size w F := fun W hW => by
    refine ⟨X1.next hW, X2.next hW, fun F hF => ?_⟩
    obtain ⟨e1, e2, e3, _⟩ := end6 (bl_trans hb0 hW) (by omega) (X2.next hW) hF
    exact ⟨e1, Vl.At.lk ((hut.next hb0).next hW) e2, e3⟩
  have nl := ft.2.2
  have hst0 := hst w0 (.refl _ _)
  obtain ⟨p0, p1, p2, p3, p4, p5, p6, p7⟩ := cells8 hst0.1
  replace hE := hide hE; replace hR := hide hR; replace hst := hide hst
  clear hst0 X1 X2 hb0 ht hC fa na hut ft
  unfold Tr.v Vl.v
  generalize hn : t.l.length = n at *
  have hn' := hide hn
  clear hn
  generalize hcn : av.length = cn at *
  go_enter Tryz.func38, Tryz.ntmps38
  go_wp2_with fail
  rw [← hw0]
  go_loopw [10] (fun ix wr => ∃ i : Nat, i ≤ n ∧ ix = .int .i64 (i : Int) ∧ Below w0.heap.size w0 wr ∧ applyL (t.l.drop i) av t.e = u) (fun ix _ => n - (intOf ix).toNat)
  case atStart => exact ⟨0, Nat.zero_le _, rfl, .refl _ _, hu⟩
  case round =>
    obtain ⟨i, hi, rfl, hbw, hap⟩ := hrel
    by_cases hlt : i < n
    · have h1 : i < t.l.length := by rw [hn'.out]; exact hlt
      rw [applyL_step h1] at hap
      obtain ⟨g1, o1, hA, _, x0, x1, x2, x3, x4, x5, x6⟩ := (hR.out wr hbw).at7 h1
      obtain ⟨b, hb⟩ : ∃ b, sameL t.l[i].l av = b := ⟨_, rfl⟩
      rw [hb] at hap
      have hE' := hE.out t.l[i] (List.getElem_mem h1) b hb
      have hk : ∀ W1, Below (wr.alloc (.cells #[.slice t.l[i].A t.l[i].l.length t.l[i].c, .int .i64 t.l[i].v.so, .bool t.l[i].v.bo, .bool t.l[i].v.p.s, .slice t.l[i].v.p.A t.l[i].v.p.xs.length t.l[i].v.p.a, .slice t.l[i].v.p.B t.l[i].v.p.ys.length t.l[i].v.p.b, .int .i64 t.l[i].v.el] 76)).heap.size (wr.alloc (.cells #[.slice t.l[i].A t.l[i].l.length t.l[i].c, .int .i64 t.l[i].v.so, .bool t.l[i].v.bo, .bool t.l[i].v.p.s, .slice t.l[i].v.p.A t.l[i].v.p.xs.length t.l[i].v.p.a, .slice t.l[i].v.p.B t.l[i].v.p.ys.length t.l[i].v.p.b, .int .i64 t.l[i].v.el] 76)) W1 → Bk wr.heap.size #[.slice t.l[i].A t.l[i].l.length t.l[i].c, .int .i64 t.l[i].v.so, .bool t.l[i].v.bo, .bool t.l[i].v.p.s, .slice t.l[i].v.p.A t.l[i].v.p.xs.length t.l[i].v.p.a, .slice t.l[i].v.p.B t.l[i].v.p.ys.length t.l[i].v.p.b, .int .i64 t.l[i].v.el] 76 W1 ∧ Below w0.heap.size w0 W1 := fun W1 h => ⟨(Bk.new _ _ wr).next h, bl_trans hbw (bl_trans (bl_al (.refl _ _) _) h)⟩
      have hE'' := hE' (wr.alloc (.cells #[.slice t.l[i].A t.l[i].l.length t.l[i].c, .int .i64 t.l[i].v.so, .bool t.l[i].v.bo, .bool t.l[i].v.p.s, .slice t.l[i].v.p.A t.l[i].v.p.xs.length t.l[i].v.p.a, .slice t.l[i].v.p.B t.l[i].v.p.ys.length t.l[i].v.p.b, .int .i64 t.l[i].v.el] 76)) (hk _ (.refl _ _)).2
      replace hE'' := hide hE''
      replace hk := hide hk
      replace hbw := hide hbw
      obtain ⟨p0, p1, p2, p3, p4, p5, p6, p7⟩ := cells8 (hst.out wr hbw.out).1
      clear hE hE' hb hR
      generalize t.l[i] = r at *
      rw [hA] at *
      have hlt' : (i : Int) < (n : Int) := by omega
      cases b with
      | true =>
        have hru : r.v = u := hap
        subst hru
        clear hap
        generalize r.l.length = rn at *
        generalize hi1 : r.v.p.xs.length = i1 at *
        generalize hi2 : r.v.p.ys.length = i2 at *
        replace hi1 := hide hi1; replace hi2 := hide hi2
        go_wp2_with (go_at_call 64; (with_reducible refine hE''.out.mono ?_); rintro e w1 ⟨rfl, hb1⟩; obtain ⟨k1, k2⟩ := hk.out w1 hb1; obtain ⟨y0, y1, y2, y3, y4, y5, y6⟩ := cells7 k1; obtain ⟨_, kz, ke⟩ := hst.out w1 k2; obtain ⟨z0, z1, z2, z3, z4, z5⟩ : C6 (w.heap.size + 1) _ _ _ _ _ _ w1 := C6.of kz; obtain ⟨f0, f1, f2, f3, f4, f5⟩ := free6 kz; replace ke := hide ke; replace k2 := hide k2; clear k1 kz hb1)
        obtain ⟨F, hF⟩ : ∃ F, F = set6 w1 (w.heap.size + 1) (.int .i64 r.v.so) (.bool r.v.bo) (.bool r.v.p.s) (.slice r.v.p.A i1 r.v.p.a) (.slice r.v.p.B i2 r.v.p.b) (.int .i64 r.v.el) := ⟨_, rfl⟩
        clear z0 z1 z2 z3 z4 z5
        obtain ⟨⟨z0, z1, z2, z3, z4, z5⟩, e1, e2⟩ := ke.out F hF
        unfold set6 at hF
        rw [← hF]
        exact bodyPost_ret (v := .agg #[.int .i64 r.v.so, .bool r.v.bo, .bool r.v.p.s, .slice r.v.p.A i1 r.v.p.a, .slice r.v.p.B i2 r.v.p.b, .int .i64 r.v.el]) (by simp [results, Tryz.results38, go_sem, z0, z1, z2, z3, z4, z5]) rfl ⟨by rw [hi1.out, hi2.out], e1, e2⟩
      | false =>
        have hap' : applyL (t.l.drop (i + 1)) av t.e = u := hap
        replace hap' := hide hap'
        clear hap
        generalize r.l.length = rn at *
        generalize hi1 : r.v.p.xs.length = i1 at *
        generalize hi2 : r.v.p.ys.length = i2 at *
        replace hi1 := hide hi1; replace hi2 := hide hi2
        go_wp2_with (go_at_call 64; (with_reducible refine hE''.out.mono ?_); rintro e w1 ⟨rfl, hb1⟩; obtain ⟨k1, k2⟩ := hk.out w1 hb1; replace k2 := hide k2; clear k1 hb1)
        go_roundw
        case rel => exact ⟨i + 1, hlt, by go_num, k2.out, hap'.out⟩
        case measure => simp only [intOf]; omega
    · have hin : i = n := by omega
      subst hin
      have e1 : t.l.drop i = [] := List.drop_eq_nil_of_le (by rw [hn'.out]; omega)
      rw [e1] at hap
      have hue : t.e = u := hap
      subst hue
      obtain ⟨k1, kz, ke⟩ := hst.out wr hbw
      obtain ⟨p0, p1, p2, p3, p4, p5, p6, p7⟩ := cells8 k1
      obtain ⟨z0, z1, z2, z3, z4, z5⟩ : C6 (w.heap.size + 1) _ _ _ _ _ _ wr := C6.of kz
      obtain ⟨f0, f1, f2, f3, f4, f5⟩ := free6 kz
      replace ke := hide ke
      clear k1 kz hap e1 hE hR hu
      generalize hi1 : t.e.p.xs.length = i1 at *
      generalize hi2 : t.e.p.ys.length = i2 at *
      replace hi1 := hide hi1; replace hi2 := hide hi2
      go_wp2_with fail
      obtain ⟨F, hF⟩ : ∃ F, F = set6 wr (w.heap.size + 1) (.int .i64 t.e.so) (.bool t.e.bo) (.bool t.e.p.s) (.slice t.e.p.A i1 t.e.p.a) (.slice t.e.p.B i2 t.e.p.b) (.int .i64 t.e.el) := ⟨_, rfl⟩
      clear z0 z1 z2 z3 z4 z5
      obtain ⟨⟨z0, z1, z2, z3, z4, z5⟩, e1, e2⟩ := ke.out F hF
      unfold set6 at hF
      rw [← hF]
      exact bodyPost_ret (v := .agg #[.int .i64 t.e.so, .bool t.e.bo, .bool t.e.p.s, .slice t.e.p.A i1 t.e.p.a, .slice t.e.p.B i2 t.e.p.b, .int .i64 t.e.el]) (by simp [results, Tryz.results38, go_sem, z0, z1, z2, z3, z4, z5]) rfl ⟨by rw [hi1.out, hi2.out], e1, e2⟩
end
section
open Go.ChangeShapes Go.RowKit
theorem applyL_few (t : Tr) (ft : t.Few) (av : List Vl) : (applyL t.l av t.e).Few := by
  rcases applyL_mem t.l av t.e with h | ⟨r, hr, h⟩
  · rw [h]; exact ft.2.1
  · rw [h]; exact (ft.1 r hr).2.1
theorem apply_v (t : Tr) (C : Option Addr) (kc : Nat) (av : List Vl) (w : World) {Z Z' : List Nat} (ht : t.At Z w) (ft : t.Few) (hC : Vs Z' w C av) (fa : ∀ a ∈ av, a.Few) (na : av.length ≤ 100000) :
    Calls Tryz.prog 15 #[t.v, .slice C av.length kc] w fun e w' => ∃ u : Vl, e = .returned u.v ∧ u.cn = (applyL t.l av t.e).cn ∧ u.At w' ∧ u.Few ∧ Below w.heap.size w w' := by
  have hb0 : Below w.heap.size w ((w.alloc (.cells #[.string t.nm, .slice t.A t.l.length t.c, .int .i64 t.e.so, .bool t.e.bo, .bool t.e.p.s, .slice t.e.p.A t.e.p.xs.length t.e.p.a, .slice t.e.p.B t.e.p.ys.length t.e.p.b, .int .i64 t.e.el] 37)).alloc (.cells #[.int .i64 0, .bool false, .bool false, .slice none 0 0, .slice none 0 0, .int .i64 0] 30)) := bl_al (bl_al (.refl _ _) _) _
  obtain ⟨p0, p1, p2, p3, p4, p5, p6, p7⟩ : _ ∧ _ ∧ _ ∧ _ ∧ _ ∧ _ ∧ _ ∧ _ := cells8 ((Bk.new #[.string t.nm, .slice t.A t.l.length t.c, .int .i64 t.e.so, .bool t.e.bo, .bool t.e.p.s, .slice t.e.p.A t.e.p.xs.length t.e.p.a, .slice t.e.p.B t.e.p.ys.length t.e.p.b, .int .i64 t.e.el] 37 w).al (.cells #[.int .i64 0, .bool false, .bool false, .slice none 0 0, .slice none 0 0, .int .i64 0] 30))
  have hA := hide (applied_v t C kc av _ (ht.next hb0) ft (hC.next hb0) fa na)
  have hO := hide (fun W (h : (applyL t.l av t.e).At W) => own_v (applyL t.l av t.e) W h (applyL_few t ft av))
  have hst : ∀ W, Below ((w.alloc (.cells #[.string t.nm, .slice t.A t.l.length t.c, .int .i64 t.e.so, .bool t.e.bo, .bool t.e.p.s, .slice t.e.p.A t.e.p.xs.length t.e.p.a, .slice t.e.p.B t.e.p.ys.length t.e.p.b, .int .i64 t.e.el] 37)).alloc (.cells #[.int .i64 0, .bool false, .bool false, .slice none 0 0, .slice none 0 0, .int .i64 0] 30)).heap.size ((w.alloc (.cells #[.string t.nm, .slice t.A t.l.length t.c, .int .i64 t.e.so, .bool t.e.bo, .bool t.e.p.s, .slice t.e.p.A t.e.p.xs.length t.e.p.a, .slice t.e.p.B t.e.p.ys.length t.e.p.b, .int .i64 t.e.el] 37)).alloc (.cells #[.int .i64 0, .bool false, .bool false, .slice none 0 0, .slice none 0 0, .int .i64 0] 30)) W → Bk (w.heap.size + 1) zV 30 W ∧ ∀ (u : Vl), u.At W → ∀ F, F = set6 W (w.heap.size + 1) (.int .i64 u.so) (.bool u.bo) (.bool u.p.s) (.slice u.p.A u.p.xs.length u.p.a) (.slice u.p.B u.p.ys.length u.p.b) (.int .i64 u.el) → C6 (w.heap.size + 1) (.int .i64 u.so) (.bool u.bo) (.bool u.p.s) (.slice u.p.A u.p.xs.length u.p.a) (.slice u.p.B u.p.ys.length u.p.b) (.int .i64 u.el) F ∧ u.At F ∧ Below w.heap.size w F := fun W hW => by
    have hz : Bk (w.heap.size + 1) zV 30 W := (Bk.new1 _ _ w _).next hW
    refine ⟨hz, fun u hu F hF => ?_⟩
    obtain ⟨e1, e2, e3, _⟩ := end6 (bl_trans hb0 hW) (by omega) hz hF
    exact ⟨e1, hu.lk e2, e3⟩
  replace hst := hide hst
  clear hb0 ht ft hC fa na
  generalize hv : applyL t.l av t.e = v at *
  clear hv
  unfold Tr.v at *
  generalize av.length = cn at *
  generalize t.l.length = tn at *
  generalize t.e.p.xs.length = i1 at *
  generalize t.e.p.ys.length = i2 at *
  go_enter Tryz.func15, Tryz.ntmps15
  go_wp2_with (first
    | (go_at_call 38; (with_reducible refine hA.out.mono ?_); rintro e w1 ⟨rfl, h1, hb1⟩; have hO1 := hide (hO.out w1 h1); clear hO h1; replace hb1 := hide hb1)
    | (go_at_call 37; (with_reducible refine hO1.out.mono ?_); rintro e w2 ⟨u, rfl, h2, h3, h4, hb2⟩; obtain ⟨hz, he⟩ := hst.out w2 (bl_trans hb1.out hb2); obtain ⟨z0, z1, z2, z3, z4, z5⟩ : C6 (w.heap.size + 1) _ _ _ _ _ _ w2 := C6.of hz; obtain ⟨f0, f1, f2, f3, f4, f5⟩ := free6 hz; replace he := hide (he u h3); clear hz h3 hb2; replace h2 := hide h2; replace h4 := hide h4; unfold Vl.v; generalize hi1 : u.p.xs.length = k1 at *; generalize hi2 : u.p.ys.length = k2 at *; replace hi1 := hide hi1; replace hi2 := hide hi2))
  obtain ⟨F, hF⟩ : ∃ F, F = set6 w2 (w.heap.size + 1) (.int .i64 u.so) (.bool u.bo) (.bool u.p.s) (.slice u.p.A k1 u.p.a) (.slice u.p.B k2 u.p.b) (.int .i64 u.el) := ⟨_, rfl⟩
  clear z0 z1 z2 z3 z4 z5
  obtain ⟨⟨z0, z1, z2, z3, z4, z5⟩, e1, e2⟩ := he.out F hF
  unfold set6 at hF
  rw [← hF]
  exact bodyPost_ret (v := .agg #[.int .i64 u.so, .bool u.bo, .bool u.p.s, .slice u.p.A k1 u.p.a, .slice u.p.B k2 u.p.b, .int .i64 u.el]) (by simp [results, Tryz.results15, go_sem, z0, z1, z2, z3, z4, z5]) rfl ⟨u, by unfold Vl.v; rw [hi1.out, hi2.out], h2.out, e1, h4.out, e2⟩
def set8 (W : World) (g : Nat) (v0 v1 v2 v3 v4 v5 v6 v7 : Value) : World :=
  (((((((W.setCell ⟨g, 0, none⟩ v0).setCell ⟨g, 1, none⟩ v1).setCell ⟨g, 2, none⟩ v2).setCell ⟨g, 3, none⟩ v3).setCell ⟨g, 4, none⟩ v4).setCell ⟨g, 5, none⟩ v5).setCell ⟨g, 6, none⟩ v6).setCell ⟨g, 7, none⟩ v7
theorem bk_set8 {g : Nat} {t : TypeId} {W : World} {u0 u1 u2 u3 u4 u5 u6 u7 : Value} (h2 : Bk g #[u0, u1, u2, u3, u4, u5, u6, u7] t W) (v0 v1 v2 v3 v4 v5 v6 v7 : Value) : Bk g #[v0, v1, v2, v3, v4, v5, v6, v7] t (set8 W g v0 v1 v2 v3 v4 v5 v6 v7) := by
  have g0 : Bk g #[v0, u1, u2, u3, u4, u5, u6, u7] t _ := h2.set (j := 0) v0 rfl
  have g1 : Bk g #[v0, v1, u2, u3, u4, u5, u6, u7] t _ := g0.set (j := 1) v1 rfl
  have g2 : Bk g #[v0, v1, v2, u3, u4, u5, u6, u7] t _ := g1.set (j := 2) v2 rfl
  have g3 : Bk g #[v0, v1, v2, v3, u4, u5, u6, u7] t _ := g2.set (j := 3) v3 rfl
  have g4 : Bk g #[v0, v1, v2, v3, v4, u5, u6, u7] t _ := g3.set (j := 4) v4 rfl
  have g5 : Bk g #[v0, v1, v2, v3, v4, v5, u6, u7] t _ := g4.set (j := 5) v5 rfl
  have g6 : Bk g #[v0, v1, v2, v3, v4, v5, v6, u7] t _ := g5.set (j := 6) v6 rfl
  exact g6.set (j := 7) v7 rfl
theorem off_set8 (W : World) (g : Nat) (v0 v1 v2 v3 v4 v5 v6 v7 : Value) : Off [g] W (set8 W g v0 v1 v2 v3 v4 v5 v6 v7) :=
  ((((((((Off.refl _ _).setCell _ _ (.inl (by simp))).setCell _ _ (.inl (by simp))).setCell _ _ (.inl (by simp))).setCell _ _ (.inl (by simp))).setCell _ _ (.inl (by simp))).setCell _ _ (.inl (by simp))).setCell _ _ (.inl (by simp))).setCell _ _ (.inl (by simp))
theorem free8 {g : Nat} {t : TypeId} {W : World} {cur : Array Value} (h : Bk g cur t W) :
    W.frozen? ⟨g, 0, none⟩ = false ∧ W.frozen? ⟨g, 1, none⟩ = false ∧ W.frozen? ⟨g, 2, none⟩ = false ∧ W.frozen? ⟨g, 3, none⟩ = false ∧ W.frozen? ⟨g, 4, none⟩ = false ∧ W.frozen? ⟨g, 5, none⟩ = false ∧ W.frozen? ⟨g, 6, none⟩ = false ∧ W.frozen? ⟨g, 7, none⟩ = false :=
  ⟨h.free 0, h.free 1, h.free 2, h.free 3, h.free 4, h.free 5, h.free 6, h.free 7⟩
theorem zT_no : ∀ v ∈ zT.toList, noU v = true := by intro v hv; simp [zT] at hv; rcases hv with rfl | rfl | rfl | rfl | rfl | rfl <;> rfl
theorem end8 {w W F : World} {g : Nat} {v0 v1 v2 v3 v4 v5 v6 v7 : Value} (hb : Below w.heap.size w W) (hg : w.heap.size ≤ g) (hZ : Bk g zT 37 W) (hF : F = set8 W g v0 v1 v2 v3 v4 v5 v6 v7) :
    Bk g #[v0, v1, v2, v3, v4, v5, v6, v7] 37 F ∧ Lks W F ∧ Below w.heap.size w F ∧ Off [g] W F := by
  subst hF
  have hO := off_set8 W g v0 v1 v2 v3 v4 v5 v6 v7
  exact ⟨bk_set8 hZ _ _ _ _ _ _ _ _, Lks.of_bk hZ zT_no hO, hb.trans (hO.below hb.size (by intro b hb; simp at hb; omega)), hO⟩
structure Ot (w : World) (t : Tr) (w0 : World) (g i : Nat) (lr : List Rr) (W : World) : Prop where
  b : Below w0.heap.size w0 W
  gx : Gx rR g W g t.l.length lr
  len : lr.length = i
  cn : lr.map Rr.cn = (t.l.take i).map Rr.cn
  ok : ∀ r ∈ lr, (∀ Y : List Nat, (∀ b ∈ Y, b ≤ g) → r.At Y W) ∧ r.Few
theorem Ot.next {w : World} {t : Tr} {w0 : World} {g i : Nat} {lr : List Rr} {W W' : World} (h : Ot w t w0 g i lr W) (hb : Below W.heap.size W W') : Ot w t w0 g i lr W' :=
  ⟨bl_trans h.b hb, h.gx.next hb, h.len, h.cn, fun r hr => ⟨fun Y hY => ((h.ok r hr).1 Y hY).next hb, (h.ok r hr).2⟩⟩
structure Oi (r : Rr) (wA : World) (g k : Nat) (lv : List Vl) (W : World) : Prop where
  b : Below wA.heap.size wA W
  gx : Gx rV g W g r.l.length lv
  len : lv.length = k
  cn : lv.map Vl.cn = (r.l.take k).map Vl.cn
  ok : ∀ v ∈ lv, v.At W ∧ v.Few
theorem Oi.next {r : Rr} {wA : World} {g k : Nat} {lv : List Vl} {W W' : World} (h : Oi r wA g k lv W) (hb : Below W.heap.size W W') : Oi r wA g k lv W' :=
  ⟨bl_trans h.b hb, h.gx.next hb, h.len, h.cn, fun r hr => ⟨(h.ok r hr).1.next hb, (h.ok r hr).2⟩⟩
theorem Oi.start (r : Rr) (wA : World) (hn : r.l.length ≤ 1000000) : Oi r wA wA.heap.size 0 [] (wA.alloc (rV.mz r.l.length)) :=
  ⟨bl_al (.refl _ _) _, Gx.new rV_ok wA _ hn (Nat.le_refl _), rfl, by simp, by simp⟩
theorem Ot.start (w : World) (t : Tr) (w0 : World) (hn : t.l.length ≤ 1000000) : Ot w t w0 w0.heap.size 0 [] (w0.alloc (rR.mz t.l.length)) :=
  ⟨bl_al (.refl _ _) _, Gx.new rR_ok w0 _ hn (Nat.le_refl _), rfl, by simp, by simp⟩
theorem take_one {α : Type} {l : List α} {i : Nat} (h : i < l.length) : l.take (i + 1) = l.take i ++ [l[i]] := by
  rw [List.take_add_one, List.getElem?_eq_getElem h]
  rfl
theorem Oi.push {r : Rr} {wA : World} {g k : Nat} {lv : List Vl} {W : World} (h : Oi r wA g k lv W) (hk : k < r.l.length) (hn : r.l.length ≤ 100000) (u : Vl) (hu : u.cn = r.l[k].cn) (aU : u.At W) (fU : u.Few) (hg : wA.heap.size ≤ g) :
    ∃ W', (∀ ty, (Builtin.append_ #[25, 25] ty #[.slice (some ⟨g, 0, none⟩) k r.l.length, .slice (some ⟨W.heap.size, 0, none⟩) 1 1]).run Tryz.prog (W.alloc (.cells #[.int .i64 u.so, .bool u.bo, .bool u.p.s, .slice u.p.A u.p.xs.length u.p.a, .slice u.p.B u.p.ys.length u.p.b, .int .i64 u.el] 30)) = .ok (.slice (some ⟨g, 0, none⟩) (k + 1) r.l.length) W') ∧ Oi r wA g (k + 1) (lv ++ [u]) W' := by
  have hN := h.next (bl_al (.refl _ _) (.cells #[.int .i64 u.so, .bool u.bo, .bool u.p.s, .slice u.p.A u.p.xs.length u.p.a, .slice u.p.B u.p.ys.length u.p.b, .int .i64 u.el] 30))
  have hlen := h.len
  obtain ⟨W', h1, h2, h3⟩ := hN.gx.push rV_ok u (by omega) (Nat.le_of_lt hN.gx.lt) (by omega) (x := W.heap.size) (Bk.new _ _ W)
  have hlt := h.gx.lt
  rw [hlen] at h1
  have hG : Gr rV g (W.alloc (.cells #[.int .i64 u.so, .bool u.bo, .bool u.p.s, .slice u.p.A u.p.xs.length u.p.a, .slice u.p.B u.p.ys.length u.p.b, .int .i64 u.el] 30)) (.slice (some ⟨g, 0, none⟩) lv.length r.l.length) lv := .inr ⟨g, _, rfl, hN.gx⟩
  have hL : Lks (W.alloc (.cells #[.int .i64 u.so, .bool u.bo, .bool u.p.s, .slice u.p.A u.p.xs.length u.p.a, .slice u.p.B u.p.ys.length u.p.b, .int .i64 u.el] 30)) W' := hG.lk h3
  refine ⟨W', h1, ⟨hN.b.trans (h3.below hN.b.size (by intro b hb; simp at hb; omega)), h2, by simp [hlen], ?_, fun v hv => ?_⟩⟩
  · rw [List.map_append, hN.cn, take_one hk, List.map_append]
    simp [hu]
  · rcases List.mem_append.1 hv with hv | hv
    · exact ⟨(hN.ok v hv).1.lk hL, (hN.ok v hv).2⟩
    · simp at hv
      subst hv
      exact ⟨(aU.next (bl_al (.refl _ _) _)).lk hL, fU⟩
theorem Ot.push {w : World} {t : Tr} {w0 : World} {g i : Nat} {lr : List Rr} {W : World} (h : Ot w t w0 g i lr W) (hi : i < t.l.length) (hn : t.l.length ≤ 100000) (r : Rr) (hr : r.cn = t.l[i].cn) (aR : ∀ Y : List Nat, (∀ b ∈ Y, b ≤ g) → r.At Y W) (fR : r.Few) (hg : w0.heap.size ≤ g) :
    ∃ W', (∀ ty, (Builtin.append_ #[35, 35] ty #[.slice (some ⟨g, 0, none⟩) i t.l.length, .slice (some ⟨W.heap.size, 0, none⟩) 1 1]).run Tryz.prog (W.alloc (.cells #[.slice r.A r.l.length r.c, .int .i64 r.v.so, .bool r.v.bo, .bool r.v.p.s, .slice r.v.p.A r.v.p.xs.length r.v.p.a, .slice r.v.p.B r.v.p.ys.length r.v.p.b, .int .i64 r.v.el] 76)) = .ok (.slice (some ⟨g, 0, none⟩) (i + 1) t.l.length) W') ∧ Ot w t w0 g (i + 1) (lr ++ [r]) W' := by
  have hN := h.next (bl_al (.refl _ _) (.cells #[.slice r.A r.l.length r.c, .int .i64 r.v.so, .bool r.v.bo, .bool r.v.p.s, .slice r.v.p.A r.v.p.xs.length r.v.p.a, .slice r.v.p.B r.v.p.ys.length r.v.p.b, .int .i64 r.v.el] 76))
  have hlen := h.len
  obtain ⟨W', h1, h2, h3⟩ := hN.gx.push rR_ok r (by omega) (Nat.le_of_lt hN.gx.lt) (by omega) (x := W.heap.size) (Bk.new _ _ W)
  rw [hlen] at h1
  have hG : Gr rR g (W.alloc (.cells #[.slice r.A r.l.length r.c, .int .i64 r.v.so, .bool r.v.bo, .bool r.v.p.s, .slice r.v.p.A r.v.p.xs.length r.v.p.a, .slice r.v.p.B r.v.p.ys.length r.v.p.b, .int .i64 r.v.el] 76)) (.slice (some ⟨g, 0, none⟩) lr.length t.l.length) lr := .inr ⟨g, _, rfl, hN.gx⟩
  have hL : Lks (W.alloc (.cells #[.slice r.A r.l.length r.c, .int .i64 r.v.so, .bool r.v.bo, .bool r.v.p.s, .slice r.v.p.A r.v.p.xs.length r.v.p.a, .slice r.v.p.B r.v.p.ys.length r.v.p.b, .int .i64 r.v.el] 76)) W' := hG.lk h3
  refine ⟨W', h1, ⟨hN.b.trans (h3.below hN.b.size (by intro b hb; simp at hb; omega)), h2, by simp [hlen], ?_, fun v hv => ?_⟩⟩
  · rw [List.map_append, hN.cn, take_one hi, List.map_append]
    simp [hr]
  · rcases List.mem_append.1 hv with hv | hv
    · exact ⟨fun Y hY => ((hN.ok v hv).1 (g :: Y) (by intro b hb; rcases List.mem_cons.1 hb with rfl | hb; exact Nat.le_refl _; exact hY b hb)).off h3 hL (fun b hb => .inl (by simp at hb; simp [hb])) (fun b hb => .inl (List.mem_cons_of_mem _ hb)), (hN.ok v hv).2⟩
    · simp at hv
      subst hv
      exact ⟨fun Y hY => ((aR (g :: Y) (by intro b hb; rcases List.mem_cons.1 hb with rfl | hb; exact Nat.le_refl _; exact hY b hb)).next (bl_al (.refl _ _) _)).off h3 hL (fun b hb => .inl (by simp at hb; simp [hb])) (fun b hb => .inl (List.mem_cons_of_mem _ hb)), fR⟩
end
section
open Go.ChangeShapes Go.RowKit
theorem ownTable_v (t : Tr) (w : World) {Z : List Nat} (ht : t.At Z w) (ft : t.Few) :
    Calls Tryz.prog 36 #[t.v] w fun e w' => ∃ u : Tr, e = .returned u.v ∧ u.nm = t.nm ∧ u.l.map Rr.cn = t.l.map Rr.cn ∧ u.e.cn = t.e.cn ∧ (∀ Y : List Nat, (∀ b ∈ Y, b < w.heap.size) → u.At Y w') ∧ u.Few ∧ Below w.heap.size w w' := by
  obtain ⟨w0, hw0⟩ : ∃ W, W = (w.alloc (.cells #[.string t.nm, .slice t.A t.l.length t.c, .int .i64 t.e.so, .bool t.e.bo, .bool t.e.p.s, .slice t.e.p.A t.e.p.xs.length t.e.p.a, .slice t.e.p.B t.e.p.ys.length t.e.p.b, .int .i64 t.e.el] 37)).alloc (.cells #[.string ⟨#[]⟩, .slice none 0 0, .int .i64 0, .bool false, .bool false, .slice none 0 0, .slice none 0 0, .int .i64 0] 37) := ⟨_, rfl⟩
  have hb0 : Below w.heap.size w w0 := by rw [hw0]; exact bl_al (bl_al (.refl _ _) _) _
  have hsz : w0.heap.size = w.heap.size + 1 + 1 := by rw [hw0]; simp
  have X1 : Bk w.heap.size #[.string t.nm, .slice t.A t.l.length t.c, .int .i64 t.e.so, .bool t.e.bo, .bool t.e.p.s, .slice t.e.p.A t.e.p.xs.length t.e.p.a, .slice t.e.p.B t.e.p.ys.length t.e.p.b, .int .i64 t.e.el] 37 w0 := by rw [hw0]; exact (Bk.new _ _ w).al _
  have X2 : Bk (w.heap.size + 1) zT 37 w0 := by rw [hw0]; exact Bk.new1 _ _ w _
  have hM : ∀ W : World, (Instr.makeSlice 35 (.int .i64 0) (.int .i64 (t.l.length : Int))).run Tryz.prog W = .ok (.slice (some ⟨W.heap.size, 0, none⟩) 0 t.l.length) (W.alloc (rR.mz t.l.length)) := rR_ok.make _ (Nat.le_trans ft.2.2 (by decide))
  have hS := Ot.start w t w0 (Nat.le_trans ft.2.2 (by decide))
  rw [hsz] at hS
  have hR : ∀ W, Below w0.heap.size w0 W → Rws Z W t.A t.l := fun W hW => (ht.1.next hb0).next hW
  have hBx : ∀ W, Below w0.heap.size w0 W → Bk w.heap.size #[.string t.nm, .slice t.A t.l.length t.c, .int .i64 t.e.so, .bool t.e.bo, .bool t.e.p.s, .slice t.e.p.A t.e.p.xs.length t.e.p.a, .slice t.e.p.B t.e.p.ys.length t.e.p.b, .int .i64 t.e.el] 37 W ∧ t.e.At W := fun W hW => ⟨X1.next hW, (ht.2.next hb0).next hW⟩
  have hE : ∀ (W W1 : World) (lr : List Rr) (u : Vl) (g i : Nat), Ot w t w0 g i lr W → w0.heap.size ≤ g → i = t.l.length → Below W.heap.size W W1 → u.cn = t.e.cn → u.At W1 → u.Few → Bk (w.heap.size + 1) zT 37 W1 ∧
      ∀ F, F = set8 W1 (w.heap.size + 1) (.string t.nm) (.slice (some ⟨g, 0, none⟩) t.l.length t.l.length) (.int .i64 u.so) (.bool u.bo) (.bool u.p.s) (.slice u.p.A u.p.xs.length u.p.a) (.slice u.p.B u.p.ys.length u.p.b) (.int .i64 u.el) → Bk (w.heap.size + 1) #[.string t.nm, .slice (some ⟨g, 0, none⟩) t.l.length t.l.length, .int .i64 u.so, .bool u.bo, .bool u.p.s, .slice u.p.A u.p.xs.length u.p.a, .slice u.p.B u.p.ys.length u.p.b, .int .i64 u.el] 37 F ∧
      ∃ v : Tr, Value.agg #[.string t.nm, .slice (some ⟨g, 0, none⟩) t.l.length t.l.length, .int .i64 u.so, .bool u.bo, .bool u.p.s, .slice u.p.A u.p.xs.length u.p.a, .slice u.p.B u.p.ys.length u.p.b, .int .i64 u.el] = v.v ∧ v.nm = t.nm ∧ v.l.map Rr.cn = t.l.map Rr.cn ∧ v.e.cn = t.e.cn ∧ (∀ Y : List Nat, (∀ b ∈ Y, b < w.heap.size) → v.At Y F) ∧ v.Few ∧ Below w.heap.size w F := fun W W1 lr u g i h hg hi hb hu aU fU => by
    have hN := h.next hb
    have hz := X2.next hN.b
    refine ⟨hz, fun F hF => ?_⟩
    obtain ⟨e1, e2, e3, e4⟩ := end8 (bl_trans hb0 hN.b) (by omega) hz hF
    have hlen : lr.length = t.l.length := h.len.trans hi
    have hcn : lr.map Rr.cn = t.l.map Rr.cn := by rw [hN.cn, hi, List.take_length]
    have hrow : ∀ Y : List Nat, (∀ b ∈ Y, b < w.heap.size) → Rl rR ((w.heap.size + 1) :: Y) W1 (some ⟨g, 0, none⟩) lr := fun Y hY => hN.gx.rl rR_ok (by intro hm; rcases List.mem_cons.1 hm with h | h; omega; have := hY _ h; omega)
    refine ⟨e1, ⟨t.nm, some ⟨g, 0, none⟩, lr, t.l.length, u⟩, by unfold Tr.v; rw [hlen], rfl, hcn, hu, fun Y hY => ⟨⟨(hrow Y hY).off e4 (fun b hb => .inl (by simp at hb; simp [hb])) (fun b hb => .inl (List.mem_cons_of_mem _ hb)) rR_ok, fun r hr => ((hN.ok r hr).1 ((w.heap.size + 1) :: Y) (by intro b hb; rcases List.mem_cons.1 hb with h | h; omega; have := hY _ h; omega)).off e4 e2 (fun b hb => .inl (by simp at hb; simp [hb])) (fun b hb => .inl (List.mem_cons_of_mem _ hb))⟩, aU.lk e2⟩, ⟨fun r hr => (hN.ok r hr).2, fU, by rw [hlen]; exact ft.2.2⟩, e3⟩
  have hO := fun (v : Vl) (W : World) (h : v.At W) (f : v.Few) => own_v v W h f
  have nl := ft.2.2
  have hfr : ∀ r ∈ t.l, r.Few := ft.1
  have fte := ft.2.1
  obtain ⟨p0, p1, p2, p3, p4, p5, p6, p7⟩ := cells8 X1
  replace hR := hide hR; replace hBx := hide hBx; replace hE := hide hE; replace hS := hide hS
  clear X1 X2 ht ft hb0
  unfold Vl.v at hO
  unfold Tr.v
  replace hO := hide hO
  have hMV := hide (fun (m : Nat) (h : m ≤ 100000) (W : World) => (show (Instr.makeSlice 25 (.int .i64 0) (.int .i64 (m : Int))).run Tryz.prog W = .ok (.slice (some ⟨W.heap.size, 0, none⟩) 0 m) (W.alloc (rV.mz m)) from rV_ok.make m (Nat.le_trans h (by decide)) W))
  generalize hn : t.l.length = n at *
  have hn' := hide hn
  clear hn
  replace hw0 := hide hw0
  replace hsz := hide hsz
  go_enter Tryz.func36, Tryz.ntmps36
  go_wp2_with fail
  go_loopw [3, 16] (fun v ix wr => ∃ (i : Nat) (lr : List Rr), i ≤ n ∧ ix = .int .i64 (i : Int) ∧ v = .slice (some ⟨w.heap.size + 1 + 1, 0, none⟩) i n ∧ Ot w t w0 (w.heap.size + 1 + 1) i lr wr) (fun _ ix _ => n - (intOf ix).toNat)
  case atStart => exact ⟨0, [], Nat.zero_le _, rfl, rfl, by rw [← hw0.out]; exact hS.out⟩
  case round =>
    obtain ⟨i, lr, hi, rfl, rfl, hO1⟩ := hrel
    generalize wr = wo at *
    by_cases hlt : i < n
    · have h1 : i < t.l.length := by rw [hn'.out]; exact hlt
      have hmem := List.getElem_mem h1
      obtain ⟨hrl, hrv⟩ := hR.out wo hO1.b
      obtain ⟨gr, or', hA, _, x0, x1, x2, x3, x4, x5, x6⟩ := hrl.at7 h1
      obtain ⟨hvs, hve⟩ := hrv _ hmem
      have fr := hfr _ hmem
      obtain ⟨wA, hwA⟩ : ∃ W, W = wo.alloc (.cells #[.slice t.l[i].A t.l[i].l.length t.l[i].c, .int .i64 t.l[i].v.so, .bool t.l[i].v.bo, .bool t.l[i].v.p.s, .slice t.l[i].v.p.A t.l[i].v.p.xs.length t.l[i].v.p.a, .slice t.l[i].v.p.B t.l[i].v.p.ys.length t.l[i].v.p.b, .int .i64 t.l[i].v.el] 76) := ⟨_, rfl⟩
      have hbA : Below wo.heap.size wo wA := by rw [hwA]; exact bl_al (.refl _ _) _
      have hKA : Bk wo.heap.size #[.slice t.l[i].A t.l[i].l.length t.l[i].c, .int .i64 t.l[i].v.so, .bool t.l[i].v.bo, .bool t.l[i].v.p.s, .slice t.l[i].v.p.A t.l[i].v.p.xs.length t.l[i].v.p.a, .slice t.l[i].v.p.B t.l[i].v.p.ys.length t.l[i].v.p.b, .int .i64 t.l[i].v.el] 76 wA := by rw [hwA]; exact Bk.new _ _ _
      have hmv := hMV.out t.l[i].l.length fr.2.2
      have hI := Oi.start t.l[i] wA (Nat.le_trans fr.2.2 (by decide))
      have hszA : wA.heap.size = wo.heap.size + 1 := by rw [hwA]; simp
      have hpush := fun (W : World) (r : Rr) (h : Ot w t w0 (w.heap.size + 1 + 1) i lr W) (hr : r.cn = t.l[i].cn) (aR : ∀ Y : List Nat, (∀ b ∈ Y, b ≤ w.heap.size + 1 + 1) → r.At Y W) (fR : r.Few) => h.push h1 (by rw [hn'.out]; exact nl) r hr aR fR (Nat.le_of_eq hsz.out)
      rw [hn'.out] at hpush
      obtain ⟨p0, p1, p2, p3, p4, p5, p6, p7⟩ := cells8 (hBx.out wo hO1.b).1
      have hlw := hO1.gx.lt
      have hbb := hO1.b.size
      replace hO1 := hide hO1; replace hbA := hide hbA; replace hKA := hide hKA; replace hpush := hide hpush; replace hvs := hide hvs; replace hve := hide hve; replace fr := hide fr
      clear hS hM hR hrl hrv hBx hE hMV
      generalize hri : t.l[i] = r at *
      replace hri := hide hri
      rw [hA] at *
      obtain ⟨k1, k2, k3, k4, k5, k6, k7⟩ := cells7 hKA.out
      have hlt' : (i : Int) < (n : Int) := by omega
      generalize hm : r.l.length = m at *
      have hm' := hide hm
      clear hm
      have hm1 : m ≤ 100000 := by rw [← hm'.out]; exact fr.out.2.2
      rw [hszA] at hI
      replace hwA := hide hwA
      replace hszA := hide hszA
      go_wp2_with fail
      go_loopw [6, 27] (fun v ix wr => ∃ (k : Nat) (lv : List Vl), k ≤ m ∧ ix = .int .i64 (k : Int) ∧ v = .slice (some ⟨wo.heap.size + 1, 0, none⟩) k m ∧ Oi r wA (wo.heap.size + 1) k lv wr) (fun _ ix _ => m - (intOf ix).toNat)
      case atStart => exact ⟨0, [], Nat.zero_le _, rfl, rfl, by rw [← hwA.out]; exact hI⟩
      case round =>
        obtain ⟨k, lv, hk, rfl, rfl, hI1⟩ := hrel
        have hwq : Below wo.heap.size wo wr := bl_trans hbA.out hI1.b
        have hKq := hKA.out.next hI1.b
        obtain ⟨k1, k2, k3, k4, k5, k6, k7⟩ := cells7 hKq
        by_cases hkm : k < m
        · have h2 : k < r.l.length := by rw [hm'.out]; exact hkm
          obtain ⟨hvl, hva⟩ := hvs.out.next hwq
          have aV := hva _ (List.getElem_mem h2)
          have fV := fr.out.1 _ (List.getElem_mem h2)
          obtain ⟨gv, ov, hC, _, y0, y1, y2, y3, y4, y5⟩ := hvl.at6 h2
          have hb1 : Below wr.heap.size wr (wr.alloc (.cells #[.int .i64 r.l[k].so, .bool r.l[k].bo, .bool r.l[k].p.s, .slice r.l[k].p.A r.l[k].p.xs.length r.l[k].p.a, .slice r.l[k].p.B r.l[k].p.ys.length r.l[k].p.b, .int .i64 r.l[k].el] 30)) := bl_al (.refl _ _) _
          have hO2 := hO.out r.l[k] _ (aV.next hb1) fV
          have hpu := fun (W : World) (u : Vl) (h : Below wr.heap.size wr W) (hu : u.cn = r.l[k].cn) (aU : u.At W) (fU : u.Few) => (hI1.next h).push h2 fr.out.2.2 u hu aU fU (Nat.le_of_eq hszA.out)
          have hb2 := hide hb1
          clear hvl hva aV fV hb1 hKq hI
          rw [hm'.out] at hpu
          replace hO2 := hide hO2; replace hpu := hide hpu; replace hwq := hide hwq
          generalize r.l[k] = x at *
          rw [hC] at *
          generalize x.p.xs.length = i1 at *
          generalize x.p.ys.length = i2 at *
          have hkm' : (k : Int) < (m : Int) := by omega
          go_wp2_with (first
            | (go_at_call 37; (with_reducible refine hO2.out.mono ?_); rintro e wa ⟨u, rfl, hu, aU, fU, hb3⟩; obtain ⟨wb, hap, hIn⟩ := hpu.out wa u (bl_trans hb2.out hb3) hu aU fU; replace hIn := hide hIn; clear hu aU fU hb3)
            | (at_builtin; refine wpList_append_run _ rfl _ _ _ rfl _ _ _ _ rfl rfl hap ?_))
          go_roundw
          case rel => exact ⟨k + 1, _, hkm, by go_num, rfl, hIn.out⟩
          case measure => simp only [intOf]; omega
        · have hkm2 : k = m := by omega
          subst hkm2
          have hrat := fun (u2 : Vl) (W : World) (hb : Below wr.heap.size wr W) (hu : u2.cn = r.v.cn) (aU : u2.At W) (fU : u2.Few) => hpush.out W ⟨some ⟨wo.heap.size + 1, 0, none⟩, lv, k, u2⟩ (hO1.out.next (bl_trans hwq hb)) (by
            show (lv.map Vl.cn, u2.cn) = (r.l.map Vl.cn, r.v.cn)
            rw [hI1.cn, hu, ← hm'.out, List.take_length]) (fun Y hY => ⟨⟨((hI1.next hb).gx.rl rV_ok (fun hm => by have := hY _ hm; have := hsz.out; have := hO1.out.b.size; omega)), fun v hv => ((hI1.next hb).ok v hv).1⟩, aU⟩) ⟨fun v hv => (hI1.ok v hv).2, fU, by rw [hI1.len]; exact hm1⟩
          simp only [hI1.len] at hrat
          have hO2 := hO.out r.v wr (hve.out.next hwq) fr.out.2.1
          clear hKq hI hI1 hlw hbb
          replace hO2 := hide hO2; replace hrat := hide hrat; replace hwq := hide hwq
          generalize r.v.p.xs.length = i1 at *
          generalize r.v.p.ys.length = i2 at *
          go_wp2_with (first
            | (go_at_call 37; (with_reducible refine hO2.out.mono ?_); rintro e wa ⟨u, rfl, hu, aU, fU, hb3⟩; obtain ⟨wb, hap, hOn⟩ := hrat.out u wa hb3 hu aU fU; replace hOn := hide hOn; clear hu aU fU hb3)
            | (at_builtin; refine wpList_append_run _ rfl _ _ _ rfl _ _ _ _ rfl rfl hap ?_))
          go_roundw
          case rel => exact ⟨i + 1, _, hlt, by go_num, rfl, hOn.out⟩
          case measure => simp only [intOf]; omega
    · have hin : i = n := by omega
      subst hin
      obtain ⟨hKb, hte⟩ := hBx.out wo hO1.b
      obtain ⟨p0, p1, p2, p3, p4, p5, p6, p7⟩ := cells8 hKb
      have hO2 := hide (fun W (hb : Below wo.heap.size wo W) => hO.out t.e W (hte.next hb) fte)
      have hbx := hide (fun W (hb : Below wo.heap.size wo W) => cells8 (hKb.next hb))
      have hbd : Below wo.heap.size wo wo.drew := (Below.refl _ _).drew
      have hEE := fun (u : Vl) (W1 : World) (hb : Below wo.heap.size wo W1) (hu : u.cn = t.e.cn) (aU : u.At W1) (fU : u.Few) => hE.out wo W1 lr u _ i hO1 (Nat.le_of_eq hsz.out) rfl hb hu aU fU
      replace hEE := hide hEE
      clear hte hKb hS hM hR hBx hE hMV hO
      generalize t.e.p.xs.length = i1 at *
      generalize t.e.p.ys.length = i2 at *
      go_wp2_with fail
      go_region_with (go_at_call 37; (with_reducible refine (hO2.out _ hbd).mono ?_); rintro e w1 ⟨u, rfl, hu, aU, fU, hb3⟩; have hb4 := bl_trans hbd hb3; obtain ⟨hz, he⟩ := hEE.out u w1 hb4 hu aU fU; obtain ⟨z0, z1, z2, z3, z4, z5, z6, z7⟩ : _ ∧ _ ∧ _ ∧ _ ∧ _ ∧ _ ∧ _ ∧ _ := cells8 hz; obtain ⟨f0, f1, f2, f3, f4, f5, f6, f7⟩ := free8 hz; obtain ⟨q0, q1, q2, q3, q4, q5, q6, q7⟩ := hbx.out w1 hb4; clear hz hu aU fU hb3 hb4; replace he := hide he; generalize hi1 : u.p.xs.length = k1 at *; generalize hi2 : u.p.ys.length = k2 at *; replace hi1 := hide hi1; replace hi2 := hide hi2)
      all_goals
        obtain ⟨F, hF⟩ : ∃ F, F = set8 w1 (w.heap.size + 1) (.string t.nm) (.slice (some ⟨w.heap.size + 1 + 1, 0, none⟩) i i) (.int .i64 u.so) (.bool u.bo) (.bool u.p.s) (.slice u.p.A k1 u.p.a) (.slice u.p.B k2 u.p.b) (.int .i64 u.el) := ⟨_, rfl⟩
        clear z0 z1 z2 z3 z4 z5 z6 z7
        obtain ⟨hB8, v, e0, e1, e2, e3, e4, e5, e6⟩ := he.out F hF
        obtain ⟨z0, z1, z2, z3, z4, z5, z6, z7⟩ : _ ∧ _ ∧ _ ∧ _ ∧ _ ∧ _ ∧ _ ∧ _ := cells8 hB8
        unfold set8 at hF
        rw [← hF]
        clear hB8 hF he
        go_wp2_with fail
        exact bodyPost_ret (v := .agg #[.string t.nm, .slice (some ⟨w.heap.size + 1 + 1, 0, none⟩) i i, .int .i64 u.so, .bool u.bo, .bool u.p.s, .slice u.p.A k1 u.p.a, .slice u.p.B k2 u.p.b, .int .i64 u.el]) (by simp [results, Tryz.results36, go_sem, z0, z1, z2, z3, z4, z5, z6, z7]) rfl ⟨v, congrArg _ e0, e1, e2, e3, e4, e5, e6⟩
end
section
open Go.ChangeShapes Go.RowKit
def findT : List Tr → List UInt8 → Option Tr
  | [], _ => none
  | t :: l, s => if (t.nm.data.toList == s) = true then some t else findT l s
theorem findT_step {l : List Tr} {s : List UInt8} {i : Nat} (hi : i < l.length) : findT (l.drop i) s = if (l[i].nm.data.toList == s) = true then some l[i] else findT (l.drop (i + 1)) s := by
  rw [List.drop_eq_getElem_cons hi]
  rfl
theorem findT_mem {l : List Tr} {s : List UInt8} {t : Tr} (h : findT l s = some t) : t ∈ l ∧ t.nm.data.toList = s := by
  induction l with
  | nil => cases h
  | cons a l ih =>
    unfold findT at h
    split at h
    · rename_i hc
      cases h
      exact ⟨by simp, eq_of_beq hc⟩
    · exact ⟨List.mem_cons_of_mem _ (ih h).1, (ih h).2⟩
def zVl : Vl := ⟨0, false, ⟨false, none, 0, [], none, 0, [], 0⟩, 0⟩
def zTr : Tr := ⟨⟨#[]⟩, none, [], 0, zVl⟩
theorem zVl_few : zVl.Few := ⟨⟨by simp [zVl, Limbs], by simp [zVl, Limbs], by simp [zVl], by simp [zVl]⟩, by simp [zVl], by simp [zVl]⟩
theorem zVl_at (W : World) : zVl.At W := ⟨.inl rfl, .inl rfl⟩
theorem zTr_few : zTr.Few := ⟨by simp [zTr], zVl_few, by simp [zTr]⟩
theorem zTr_at (Z : List Nat) (W : World) : zTr.At Z W := ⟨⟨.inl rfl, by simp [zTr]⟩, zVl_at W⟩
def FdT (o : Option Tr) (w : World) (e : Ending) (w' : World) : Prop := ∃ u : Tr, e = .returned (.tuple #[u.v, .bool o.isSome]) ∧ u.nm = (o.getD zTr).nm ∧ u.l.map Rr.cn = (o.getD zTr).l.map Rr.cn ∧ u.e.cn = (o.getD zTr).e.cn ∧ u.At [] w' ∧ u.Few ∧ Below w.heap.size w w'
theorem find_v (A : Option Addr) (c : Nat) (l : List Tr) (s : ByteArray) (w : World) {Z : List Nat} (hl : Ts Z w A l) (fl : ∀ t ∈ l, t.Few) (nl : l.length ≤ 100000) (o : Option Tr) (ho : findT l s.data.toList = o) :
    Calls Tryz.prog 12 #[.agg #[.slice A l.length c], .string s] w (FdT o w) := by
  obtain ⟨w0, hw0⟩ : ∃ W, W = (w.alloc (.cells #[.slice A l.length c] 24)).alloc (.cells #[.string ⟨#[]⟩, .slice none 0 0, .int .i64 0, .bool false, .bool false, .slice none 0 0, .slice none 0 0, .int .i64 0] 37) := ⟨_, rfl⟩
  have hb0 : Below w.heap.size w w0 := by rw [hw0]; exact bl_al (bl_al (.refl _ _) _) _
  have X1 : Bk w.heap.size #[.slice A l.length c] 24 w0 := by rw [hw0]; exact (Bk.new _ _ w).al _
  have X2 : Bk (w.heap.size + 1) zT 37 w0 := by rw [hw0]; exact Bk.new1 _ _ w _
  have hT : ∀ W, Below w0.heap.size w0 W → Ts Z W A l := fun W hW => (hl.next hb0).next hW
  have hO : ∀ (t : Tr) (_ : t ∈ l) (W : World), Below w0.heap.size w0 W → Calls Tryz.prog 36 #[t.v] W fun e w' => ∃ u : Tr, e = .returned u.v ∧ u.nm = t.nm ∧ u.l.map Rr.cn = t.l.map Rr.cn ∧ u.e.cn = t.e.cn ∧ (∀ Y : List Nat, (∀ b ∈ Y, b < W.heap.size) → u.At Y w') ∧ u.Few ∧ Below W.heap.size W w' := fun t ht W hW =>
    ownTable_v t W ((hT W hW).2 t ht) (fl t ht)
  have hE : ∀ (W : World) (u : Tr), Below w0.heap.size w0 W → u.At [w.heap.size + 1] W → Bk (w.heap.size + 1) zT 37 W ∧ ∀ F, F = set8 W (w.heap.size + 1) (.string u.nm) (.slice u.A u.l.length u.c) (.int .i64 u.e.so) (.bool u.e.bo) (.bool u.e.p.s) (.slice u.e.p.A u.e.p.xs.length u.e.p.a) (.slice u.e.p.B u.e.p.ys.length u.e.p.b) (.int .i64 u.e.el) → Bk (w.heap.size + 1) #[.string u.nm, .slice u.A u.l.length u.c, .int .i64 u.e.so, .bool u.e.bo, .bool u.e.p.s, .slice u.e.p.A u.e.p.xs.length u.e.p.a, .slice u.e.p.B u.e.p.ys.length u.e.p.b, .int .i64 u.e.el] 37 F ∧ u.At [] F ∧ Below w.heap.size w F := fun W u hb aU => by
    have hz := X2.next hb
    refine ⟨hz, fun F hF => ?_⟩
    obtain ⟨e1, e2, e3, e4⟩ := end8 (bl_trans hb0 hb) (by omega) hz hF
    exact ⟨e1, aU.off e4 e2 (fun b hb => .inl hb) (by simp), e3⟩
  have hS : ∀ b : ByteArray, binOp .eql 9 (.string b) (.string s) = pure (.bool (b.data.toList == s.data.toList)) := fun b => eql_s _ b s
  obtain ⟨p0, p1⟩ : w0.cell? ⟨w.heap.size, 0, none⟩ = some (.slice A l.length c) ∧ True := ⟨X1.cell rfl, trivial⟩
  have hsz := hide (show w0.heap.size = w.heap.size + 1 + 1 by rw [hw0]; simp)
  replace hT := hide hT; replace hO := hide hO; replace hE := hide hE; replace hS := hide hS; replace hw0 := hide hw0; replace hb0 := hide hb0
  clear X1 X2 hl fl
  generalize hn : l.length = n at *
  have hn' := hide hn
  clear hn
  go_enter Tryz.func12, Tryz.ntmps12
  go_wp2_with fail
  go_loopw [11] (fun ix wr => ∃ i : Nat, i ≤ n ∧ ix = .int .i64 (i : Int) ∧ Below w0.heap.size w0 wr ∧ findT (l.drop i) s.data.toList = o) (fun ix _ => n - (intOf ix).toNat)
  case atStart => exact ⟨0, Nat.zero_le _, rfl, by rw [← hw0.out]; exact .refl _ _, ho⟩
  case round =>
    obtain ⟨i, hi, rfl, hbw, hap⟩ := hrel
    by_cases hlt : i < n
    · have h1 : i < l.length := by rw [hn'.out]; exact hlt
      rw [findT_step h1] at hap
      obtain ⟨hr1, hr2⟩ := hT.out wr hbw
      have hmem := List.getElem_mem h1
      obtain ⟨g1, o1, hA, _, x0, x1, x2, x3, x4, x5, x6, x7⟩ := hr1.at8 h1
      have e4 := hS.out l[i].nm
      have hO1 := hO.out l[i] hmem
      have hb1 : Below wr.heap.size wr (wr.alloc (.cells #[.string l[i].nm, .slice l[i].A l[i].l.length l[i].c, .int .i64 l[i].e.so, .bool l[i].e.bo, .bool l[i].e.p.s, .slice l[i].e.p.A l[i].e.p.xs.length l[i].e.p.a, .slice l[i].e.p.B l[i].e.p.ys.length l[i].e.p.b, .int .i64 l[i].e.el] 37)) := bl_al (.refl _ _) _
      have hO2 := hO1 _ (bl_trans hbw hb1)
      have hbx := bl_trans hbw hb1
      have hbl := hide (show ∀ b ∈ [w.heap.size + 1], b < (wr.alloc (.cells #[.string l[i].nm, .slice l[i].A l[i].l.length l[i].c, .int .i64 l[i].e.so, .bool l[i].e.bo, .bool l[i].e.p.s, .slice l[i].e.p.A l[i].e.p.xs.length l[i].e.p.a, .slice l[i].e.p.B l[i].e.p.ys.length l[i].e.p.b, .int .i64 l[i].e.el] 37)).heap.size from by intro b hb; simp at hb; have := hsz.out; have := hbw.size; simp; omega)
      clear hr1 hr2 hT hO hO1
      unfold Tr.v at hO2
      replace hO2 := hide hO2
      generalize l[i] = t at *
      rw [hA] at *
      generalize htn : t.l.length = tn at *
      generalize hti : t.e.p.xs.length = i1 at *
      generalize htj : t.e.p.ys.length = i2 at *
      replace htn := hide htn; replace hti := hide hti; replace htj := hide htj
      have hlt' : (i : Int) < (n : Int) := by omega
      obtain ⟨b, hb⟩ : ∃ b, (t.nm.data.toList == s.data.toList) = b := ⟨_, rfl⟩
      rw [hb] at hap e4
      clear hb
      replace hbx := hide hbx
      cases b with
      | true =>
        have hot : some t = o := hap
        subst hot
        clear hap ho
        go_wp2_with (go_at_call 36; (with_reducible refine hO2.out.mono ?_); rintro e w1 ⟨u, rfl, u1, u2, u3, u4, u5, hb2⟩; obtain ⟨hz, he⟩ := hE.out w1 u (bl_trans hbx.out hb2) (u4 _ hbl.out); obtain ⟨z0, z1, z2, z3, z4, z5, z6, z7⟩ : _ ∧ _ ∧ _ ∧ _ ∧ _ ∧ _ ∧ _ ∧ _ := cells8 hz; obtain ⟨f0, f1, f2, f3, f4, f5, f6, f7⟩ := free8 hz; replace he := hide he; clear hz u4 hb2; have hu := hide (And.intro u1 (And.intro u2 (And.intro u3 u5))); clear u1 u2 u3 u5; generalize hi0 : u.l.length = un at *; generalize hi1 : u.e.p.xs.length = k1 at *; generalize hi2 : u.e.p.ys.length = k2 at *; replace hi0 := hide hi0; replace hi1 := hide hi1; replace hi2 := hide hi2)
        obtain ⟨F, hF⟩ : ∃ F, F = set8 w1 (w.heap.size + 1) (.string u.nm) (.slice u.A un u.c) (.int .i64 u.e.so) (.bool u.e.bo) (.bool u.e.p.s) (.slice u.e.p.A k1 u.e.p.a) (.slice u.e.p.B k2 u.e.p.b) (.int .i64 u.e.el) := ⟨_, rfl⟩
        clear z0 z1 z2 z3 z4 z5 z6 z7
        obtain ⟨hB8, e1, e2⟩ := he.out F hF
        obtain ⟨z0, z1, z2, z3, z4, z5, z6, z7⟩ : _ ∧ _ ∧ _ ∧ _ ∧ _ ∧ _ ∧ _ ∧ _ := cells8 hB8
        unfold set8 at hF
        rw [← hF]
        exact bodyPost_ret (v := .tuple #[.agg #[.string u.nm, .slice u.A un u.c, .int .i64 u.e.so, .bool u.e.bo, .bool u.e.p.s, .slice u.e.p.A k1 u.e.p.a, .slice u.e.p.B k2 u.e.p.b, .int .i64 u.e.el], .bool true]) (by simp [results, Tryz.results12, go_sem, z0, z1, z2, z3, z4, z5, z6, z7]) rfl ⟨u, by unfold Tr.v; rw [hi0.out, hi1.out, hi2.out]; rfl, hu.out.1, hu.out.2.1, hu.out.2.2.1, e1, hu.out.2.2.2, e2⟩
      | false =>
        have hap' : findT (l.drop (i + 1)) s.data.toList = o := hap
        replace hap' := hide hap'
        clear hap hO2
        go_wp2_with fail
        go_roundw
        case rel => exact ⟨i + 1, hlt, by go_num, hbx.out, hap'.out⟩
        case measure => simp only [intOf]; omega
    · have hin : i = n := by omega
      subst hin
      have e1 : l.drop i = [] := List.drop_eq_nil_of_le (by rw [hn'.out]; omega)
      rw [e1] at hap
      have hot : none = o := hap
      subst hot
      obtain ⟨hz, he⟩ := hE.out wr zTr hbw (zTr_at _ _)
      obtain ⟨z0, z1, z2, z3, z4, z5, z6, z7⟩ : _ ∧ _ ∧ _ ∧ _ ∧ _ ∧ _ ∧ _ ∧ _ := cells8 hz
      obtain ⟨f0, f1, f2, f3, f4, f5, f6, f7⟩ := free8 hz
      replace he := hide he
      clear hz hap e1 ho hT hO hE hS
      go_wp2_with fail
      obtain ⟨F, hF⟩ : ∃ F, F = set8 wr (w.heap.size + 1) (.string ⟨#[]⟩) (.slice none 0 0) (.int .i64 0) (.bool false) (.bool false) (.slice none 0 0) (.slice none 0 0) (.int .i64 0) := ⟨_, rfl⟩
      clear z0 z1 z2 z3 z4 z5 z6 z7
      obtain ⟨hB8, e1, e2⟩ := he.out F hF
      obtain ⟨z0, z1, z2, z3, z4, z5, z6, z7⟩ : _ ∧ _ ∧ _ ∧ _ ∧ _ ∧ _ ∧ _ ∧ _ := cells8 (show Bk (w.heap.size + 1) #[.string ⟨#[]⟩, .slice none 0 0, .int .i64 0, .bool false, .bool false, .slice none 0 0, .slice none 0 0, .int .i64 0] 37 F from hB8)
      unfold set8 at hF
      rw [← hF]
      exact bodyPost_ret (v := .tuple #[.agg #[.string ⟨#[]⟩, .slice none 0 0, .int .i64 0, .bool false, .bool false, .slice none 0 0, .slice none 0 0, .int .i64 0], .bool false]) (by simp [results, Tryz.results12, go_sem, z0, z1, z2, z3, z4, z5, z6, z7]) rfl ⟨zTr, rfl, rfl, rfl, rfl, e1, zTr_few, e2⟩
end
section
open Go.ChangeShapes Go.RowKit
open Go.Maps (Keyed string_keyed int_keyed keyOf_int_mk)
open Go.ChangeMaps Go.MapKept Go.WideMaps
def hE (v : Value) : Option (DataW Value × List MemPlace) := some (.held v, [])
theorem zeroT (w : World) : (zeroValue 37).run Tryz.prog w = .ok zTr.v w := by kernel_rfl
theorem zeroVl (w : World) : (zeroValue 30).run Tryz.prog w = .ok zVl.v w := by kernel_rfl
theorem lawZ : Go.Maps.Keyed Tryz.prog 3 := int_keyed Tryz.underlying3
def Tm (w : World) (m N : Nat) (l : List Tr) : Prop := ∃ D, w.ownsMap Tryz.prog 9 hE m N D ∧ ∀ s : ByteArray, s.size ≤ maxLen → match findT l s.data.toList with
  | some t => Maps.has D (kl s) = true ∧ ∀ z, D.atKey (kl s) z = .held t.v
  | none => Maps.has D (kl s) = false
theorem findT_push (l : List Tr) (t : Tr) (s : List UInt8) : findT (l ++ [t]) s = match findT l s with | some u => some u | none => if (t.nm.data.toList == s) = true then some t else none := by
  induction l with
  | nil => rfl
  | cons a l ih =>
    show (if (a.nm.data.toList == s) = true then some a else findT (l ++ [t]) s) = match (if (a.nm.data.toList == s) = true then some a else findT l s) with | some u => some u | none => if (t.nm.data.toList == s) = true then some t else none
    split
    · rfl
    · exact ih
section
variable {w w' : World} {m N : Nat} {l : List Tr}
theorem Tm.lt (h : Tm w m N l) : m < w.heap.size := by obtain ⟨D, h, _⟩ := h; exact h.lt
theorem Tm.off {T : List Nat} (h : Tm w m N l) (hf : Off T w w') (hn : m ∉ T) : Tm w' m N l := by
  obtain ⟨D, h1, h2⟩ := h
  exact ⟨D, own_off h1 hf hn, h2⟩
theorem Tm.next (h : Tm w m N l) (hb : Below w.heap.size w w') : Tm w' m N l := h.off (Off.of_below hb []) (by simp)
theorem Tm.made (w : World) : Tm (w.alloc (.map #[] 0)) w.heap.size 0 [] := ⟨.map [], World.ownsMap_made w _ _ _, fun s hs => rfl⟩
theorem Tm.look (h : Tm w m N l) (s : ByteArray) (hs : s.size ≤ maxLen) (o : Option Tr) (ho : findT l s.data.toList = o) :
    (Instr.lookup 105 (.map (some m)) (.string s) true).run Tryz.prog w = .ok (.tuple #[(o.getD zTr).v, .bool o.isSome]) w := by
  obtain ⟨D, h1, h2⟩ := h
  obtain ⟨v, ps, hr, hv⟩ := h1.look_ok lawS Tryz.underlying105 (zeroT w) (zd := .held zTr.v) (zp := []) rfl (keyOf_string_mk Tryz.underlying9 hs)
  have h3 := h2 s hs
  rw [ho] at h3
  cases o with
  | some t =>
    obtain ⟨h4, h5⟩ := h3
    rw [show Lit.string s.data.toList = kl s from rfl, h4] at hr
    rw [show Lit.string s.data.toList = kl s from rfl, h5] at hv
    unfold hE at hv
    injection hv with hv
    injection hv with hv
    injection hv with hv
    rw [hr, hv]
    rfl
  | none =>
    rw [show Lit.string s.data.toList = kl s from rfl, h3] at hr
    rw [show Lit.string s.data.toList = kl s from rfl, Maps.atKey_of_not_has h3] at hv
    unfold hE at hv
    injection hv with hv
    injection hv with hv
    injection hv with hv
    rw [hr, hv]
    rfl
theorem Tm.store (h : Tm w m N l) (t : Tr) (hs : t.nm.size ≤ maxLen) (hN : N < maxLen) (hno : findT l t.nm.data.toList = none) :
    ∃ W, (Instr.mapUpdate 105 (.map (some m)) (.string t.nm) t.v).run Tryz.prog w = .ok () W ∧ Tm W m (N + 1) (l ++ [t]) ∧ Off [m] w W := by
  obtain ⟨D, h1, h2⟩ := h
  have hk : keyOf Tryz.prog 9 (.string t.nm) = some (kl t.nm) := keyOf_string_mk Tryz.underlying9 hs
  obtain ⟨W, hr, h3, h4⟩ := h1.store lawS Tryz.underlying105 hN hk (val := t.v) (d := .held t.v) (ps := []) rfl
  refine ⟨W, hr, ⟨_, h3, fun s hs => ?_⟩, Off.of_grown h4.grown (fun k hk => by injection hk with hk; subst hk; exact .inl (by simp))⟩
  have h5 := h2 s hs
  rw [findT_push]
  by_cases e : t.nm.data.toList = s.data.toList
  · have e2 : kl s = kl t.nm := by unfold kl; rw [e]
    rw [← e, hno]
    simp only [beq_self_eq_true, if_true]
    rw [e2]
    exact ⟨Maps.has_put_same h1.isMap (by simp [kl, WideAt.IsKeyLit]) _, fun z => Maps.atKey_put_same h1.isMap (by simp [kl, WideAt.IsKeyLit]) _ _⟩
  · have hne : kl s ≠ kl t.nm := Ne.symm (kl_ne e)
    have e2 : (t.nm.data.toList == s.data.toList) = false := beq_eq_false_iff_ne.2 e
    rw [e2]
    cases hf : findT l s.data.toList with
    | some u =>
      rw [hf] at h5
      exact ⟨by rw [Maps.has_put_other hne]; exact h5.1, fun z => by rw [Maps.atKey_put_other hne]; exact h5.2 z⟩
    | none =>
      rw [hf] at h5
      show Maps.has _ _ = false
      rw [Maps.has_put_other hne]
      exact h5
theorem Tm.skip (h : Tm w m N l) (t u : Tr) (hyes : findT l t.nm.data.toList = some u) : Tm w m N (l ++ [t]) := by
  obtain ⟨D, h1, h2⟩ := h
  refine ⟨D, h1, fun s hs => ?_⟩
  have h5 := h2 s hs
  rw [findT_push]
  cases hf : findT l s.data.toList with
  | some u => rw [hf] at h5; exact h5
  | none =>
    rw [hf] at h5
    have e2 : (t.nm.data.toList == s.data.toList) = false := beq_eq_false_iff_ne.2 (fun e => by rw [e, hf] at hyes; cases hyes)
    rw [e2]
    exact h5
end
abbrev CV := Int × Bool × (Bool × List Nat × List Nat) × Int
def Mo (w : World) (m N k : Nat) (V : Nat → Option CV) : Prop := ∃ D, w.ownsMap Tryz.prog 3 hE m N D ∧ ∀ i : Nat, i < k → Maps.has D (.int .i64 (i : Int)) = true → ∃ v : Vl, (∀ z, D.atKey (.int .i64 (i : Int)) z = .held v.v) ∧ v.At w ∧ v.Few ∧ V i = some v.cn
section
variable {w w' : World} {m N k : Nat} {V : Nat → Option CV}
theorem Mo.lt (h : Mo w m N k V) : m < w.heap.size := by obtain ⟨D, h, _⟩ := h; exact h.lt
theorem Mo.map (h : Mo w m N k V) : ∃ es cl, w.heap[m]? = some (.map es cl) := by obtain ⟨D, ⟨es, cl, h, _⟩, _⟩ := h; exact ⟨es, cl, h⟩
theorem Mo.off {T : List Nat} (h : Mo w m N k V) (hf : Off T w w') (hL : Lks w w') (hn : m ∉ T) : Mo w' m N k V := by
  obtain ⟨D, h1, h2⟩ := h
  refine ⟨D, own_off h1 hf hn, fun i hi hh => ?_⟩
  obtain ⟨v, a, b, c, d⟩ := h2 i hi hh
  exact ⟨v, a, b.lk hL, c, d⟩
theorem Mo.next (h : Mo w m N k V) (hb : Below w.heap.size w w') : Mo w' m N k V := h.off (Off.of_below hb []) (Lks.of_below hb) (by simp)
theorem Mo.made (w : World) (k : Nat) (V : Nat → Option CV) : Mo (w.alloc (.map #[] 0)) w.heap.size 0 k V := ⟨.map [], World.ownsMap_made w _ _ _, fun i _ h => by cases h⟩
theorem Mo.look (h : Mo w m N k V) (i : Nat) (hi : i < k) (hk : k ≤ 1000000) :
    (∃ v : Vl, (Instr.lookup 118 (.map (some m)) (.int .i64 (i : Int)) true).run Tryz.prog w = .ok (.tuple #[v.v, .bool true]) w ∧ v.At w ∧ v.Few ∧ V i = some v.cn) ∨
      (Instr.lookup 118 (.map (some m)) (.int .i64 (i : Int)) true).run Tryz.prog w = .ok (.tuple #[zVl.v, .bool false]) w := by
  obtain ⟨D, h1, h2⟩ := h
  obtain ⟨v, ps, hr, hv⟩ := h1.look_ok lawZ Tryz.underlying118 (zeroVl w) (zd := .held zVl.v) (zp := []) rfl (keyOf_int_mk (a := (i : Int)) Tryz.underlying3 (WalkArith.wf_i64 (by omega)))
  by_cases hh : Maps.has D (.int .i64 (i : Int)) = true
  · obtain ⟨x, a, b, c, d⟩ := h2 i hi hh
    refine .inl ⟨x, ?_, b, c, d⟩
    rw [a] at hv
    unfold hE at hv
    injection hv with hv
    injection hv with hv
    injection hv with hv
    rw [hr, hh, hv]
  · have hh : Maps.has D (.int .i64 (i : Int)) = false := by simpa using hh
    refine .inr ?_
    rw [Maps.atKey_of_not_has hh] at hv
    unfold hE at hv
    injection hv with hv
    injection hv with hv
    injection hv with hv
    rw [hr, hh, hv]
theorem Mo.store (h : Mo w m N k V) (i : Nat) (hk : k ≤ 1000000) (hi : i < k) (hN : N < maxLen) (v : Vl) (aV : v.At w) (fV : v.Few) (hv : V i = some v.cn) :
    ∃ W, (Instr.mapUpdate 118 (.map (some m)) (.int .i64 (i : Int)) v.v).run Tryz.prog w = .ok () W ∧ Mo W m (N + 1) k V ∧ Off [m] w W ∧ Lks w W := by
  obtain ⟨D, h1, h2⟩ := h
  have hkey : keyOf Tryz.prog 3 (.int .i64 (i : Int)) = some (.int .i64 (i : Int)) := keyOf_int_mk Tryz.underlying3 (WalkArith.wf_i64 (by omega))
  obtain ⟨W, hr, h3, h4⟩ := h1.store lawZ Tryz.underlying118 hN hkey (val := v.v) (d := .held v.v) (ps := []) rfl
  have hO : Off [m] w W := Off.of_grown h4.grown (fun k hk => by injection hk with hk; subst hk; exact .inl (by simp))
  have hL : Lks w W := by
    obtain ⟨es, cl, hm, _⟩ := h1
    exact Lks.of_map hm hO
  refine ⟨W, hr, ⟨_, h3, fun j hj hh => ?_⟩, hO, hL⟩
  by_cases e : j = i
  · subst e
    exact ⟨v, fun z => Maps.atKey_put_same h1.isMap (by simp [WideAt.IsKeyLit]) _ _, aV.lk hL, fV, hv⟩
  · have hne : Lit.int .i64 (j : Int) ≠ .int .i64 (i : Int) := fun h => e (by injection h with _ h; omega)
    rw [Maps.has_put_other hne] at hh
    obtain ⟨x, a, b, c, d⟩ := h2 j hj hh
    exact ⟨x, fun z => by rw [Maps.atKey_put_other hne]; exact a z, b.lk hL, c, d⟩
end
end
end Nt
end Go.Proofs.YthabfakbdfaciaaGreat
