import Derived.Test.YthabfakbdfaciaaGreatOB12
namespace Go.Proofs.YthabfakbdfaciaaGreat
namespace Nt
set_option maxRecDepth 100000
set_option linter.unusedSimpArgs false
set_option linter.unusedVariables false
set_option maxHeartbeats 16000000
section
open Go.ChangeShapes Go.RowKit
def fQ (op : Int) (q : Rat) (l : List Vl) : Rat := l.foldl (fun q v => opQ op q v.p.q) q
theorem fQ_step {op : Int} {q : Rat} {l : List Vl} {i : Nat} (hi : i < l.length) : fQ op q (l.take (i + 1)) = opQ op (fQ op q (l.take i)) l[i].p.q := by
  unfold fQ
  rw [take_one hi, List.foldl_append]
  rfl
structure Rk (w : World) (p : Pt) (W : World) : Prop where
  b : Below w.heap.size w W
  z : Bk w.heap.size #[.bool false, .slice none 0 0, .slice none 0 0] 28 W
  s : Bk (w.heap.size + 1) #[.bool p.s, .slice p.A p.xs.length p.a, .slice p.B p.ys.length p.b] 28 W
  a : p.At W
theorem Rk.next {w W W' : World} {p : Pt} (h : Rk w p W) (hb : Below W.heap.size W W') : Rk w p W' := ⟨bl_trans h.b hb, h.z.next hb, h.s.next hb, h.a.next hb⟩
theorem Rk.set {w W F : World} {p r : Pt} (h : Rk w p W) (aR : r.At W) (hF : F = ((W.setCell ⟨w.heap.size + 1, 0, none⟩ (.bool r.s)).setCell ⟨w.heap.size + 1, 1, none⟩ (.slice r.A r.xs.length r.a)).setCell ⟨w.heap.size + 1, 2, none⟩ (.slice r.B r.ys.length r.b)) : Rk w r F := by
  obtain ⟨e1, e2, e3, e4⟩ := end3 h.b (by omega) h.s ⟨rfl, rfl, rfl⟩ hF
  exact ⟨e3, h.z.off e4 (by simp), e1, ⟨e2 _ _ aR.1, e2 _ _ aR.2⟩⟩
theorem Rk.start (w : World) (p : Pt) (aP : p.At w) : Rk w p ((w.alloc (.cells #[.bool false, .slice none 0 0, .slice none 0 0] 28)).alloc (.cells #[.bool p.s, .slice p.A p.xs.length p.a, .slice p.B p.ys.length p.b] 28)) :=
  ⟨bl_al (bl_al (.refl _ _) _) _, (Bk.new _ _ w).al _, Bk.new1 _ _ w _, aP.next (bl_al (bl_al (.refl _ _) _) _)⟩
theorem reckoned13_v (A : Option Addr) (c : Nat) (a : Vl) (l : List Vl) (w : World) {Z : List Nat} (hl : Vs Z w A (a :: l)) (fl : ∀ v ∈ a :: l, v.p.Ok) (nl : l.length ≤ 100000) (n1 : 1 ≤ l.length) (hc : l.length + 1 ≤ c) (hm : c ≤ maxLen) (hf : ∀ i ≤ l.length, fitq (fQ 13 a.p.q (l.take i))) :
    Calls Tryz.prog 106 #[.int .i64 13, .slice A (l.length + 1) c] w (NwQ (fQ 13 a.p.q l) w) := by
  obtain ⟨D, hsl, hD⟩ := hl.tail (by simp) c (by simpa using hc) hm
  have hS := hide (fun (p : Pt) (hp : p.Ok) (v : Vl) (hv : v ∈ l) W (a1 : p.At W) (a2 : v.At W) (Z : Rat) (hZ : opQ 13 p.q v.p.q = Z) (f : fitq Z) => both13_v hp (fl v (List.mem_cons_of_mem _ hv)) W a1 a2 Z hZ f)
  have hQ := hide (fun W (b : Below w.heap.size w W) => Vs.next hD b)
  have aA := hl.2 a (by simp)
  have okA := fl a (by simp)
  have hst := Rk.start w a.p aA
  obtain ⟨g1, o1, rfl, _, x0, x1, x2, x3, x4, x5⟩ := hl.1.at6 (i := 0) (by simp)
  rw [Nat.zero_mul, Nat.add_zero] at x2 x3 x4
  rw [show (a :: l)[0] = a from rfl] at x2 x3 x4
  have u2 := cell_next (bl_al (.refl _ _) (.cells #[.bool false, .slice none 0 0, .slice none 0 0] 28)) x2
  have u3 := cell_next (bl_al (.refl _ _) (.cells #[.bool false, .slice none 0 0, .slice none 0 0] 28)) x3
  have u4 := cell_next (bl_al (.refl _ _) (.cells #[.bool false, .slice none 0 0, .slice none 0 0] 28)) x4
  rw [show (a :: l).drop 1 = l from rfl] at hQ
  rw [show (a :: l).length = l.length + 1 from rfl, Nat.add_sub_cancel] at hsl
  have hfin : fQ 13 a.p.q (l.take l.length) = fQ 13 a.p.q l := by rw [List.take_length]
  rw [← hfin]
  replace hf := hide hf; replace hst := hide hst; replace okA := hide okA; replace hfin := hide hfin
  clear hl hD fl aA x0 x1 x2 x3 x4 x5
  generalize hn : l.length = n at *
  have hn' := hide hn
  clear hn
  have hm' : c ≤ 9223372036854775807 := by unfold maxLen at hm; omega
  clear hm
  have hj : ((n : Int) + 1 == 1) = false := beq_eq_false_iff_ne.2 (by omega)
  have hj2 : ¬ ((n : Int) + 1 = 1) := by omega
  have hj3 : ¬ ((n : Int) = 0) := by omega
  have hj4 : ¬ (n = 0) := by omega
  unfold NwQ at *
  unfold rv at *
  generalize hi1 : a.p.xs.length = i1 at *
  generalize hi2 : a.p.ys.length = i2 at *
  replace hi1 := hide hi1; replace hi2 := hide hi2
  go_enter Tryz.func106, Tryz.ntmps106
  go_wp2_with fail
  go_loopw [28] (fun ix wr => ∃ (i : Nat) (p : Pt), i ≤ n ∧ ix = .int .i64 (i : Int) ∧ p.q = fQ 13 a.p.q (l.take i) ∧ p.Ok ∧ Rk w p wr) (fun ix _ => n - (intOf ix).toNat)
  case atStart => exact ⟨0, a.p, Nat.zero_le _, rfl, rfl, okA.out, by rw [← hi1.out, ← hi2.out]; first | exact hst.out | (rw [hi1.out, hi2.out]; exact hst.out)⟩
  case round =>
    obtain ⟨i, p, hi, rfl, hq, hp, hK⟩ := hrel
    by_cases hlt : i < n
    · have h2 : i < l.length := by rw [hn'.out]; exact hlt
      have hB := hQ.out wr hK.b
      obtain ⟨g2, o2, hDD, _, y0, y1, y2, y3, y4, y5⟩ := hB.1.at6 h2
      have hb1 : Below wr.heap.size wr (wr.alloc (.cells #[.int .i64 l[i].so, .bool l[i].bo, .bool l[i].p.s, .slice l[i].p.A l[i].p.xs.length l[i].p.a, .slice l[i].p.B l[i].p.ys.length l[i].p.b, .int .i64 l[i].el] 30)) := bl_al (.refl _ _) _
      have hst2 := fQ_step (op := 13) (q := a.p.q) h2
      rw [← hq] at hst2
      have hS2 := hS.out p hp l[i] (List.getElem_mem h2) _ (hK.a.next hb1) ((hB.2 _ (List.getElem_mem h2)).next hb1) _ hst2.symm (hf.out (i + 1) (by omega))
      have hK1 := hK.next hb1
      obtain ⟨z0, z1, z2⟩ := cells3 hK1.s
      have hnx := fun (W : World) (r : Pt) (hb : Below (wr.alloc (.cells #[.int .i64 l[i].so, .bool l[i].bo, .bool l[i].p.s, .slice l[i].p.A l[i].p.xs.length l[i].p.a, .slice l[i].p.B l[i].p.ys.length l[i].p.b, .int .i64 l[i].el] 30)).heap.size (wr.alloc (.cells #[.int .i64 l[i].so, .bool l[i].bo, .bool l[i].p.s, .slice l[i].p.A l[i].p.xs.length l[i].p.a, .slice l[i].p.B l[i].p.ys.length l[i].p.b, .int .i64 l[i].el] 30)) W) (aR : r.At W) F hF => And.intro (hK1.next hb).s ((hK1.next hb).set (F := F) aR hF)
      have hbk := fun (W : World) (hb : Below (wr.alloc (.cells #[.int .i64 l[i].so, .bool l[i].bo, .bool l[i].p.s, .slice l[i].p.A l[i].p.xs.length l[i].p.a, .slice l[i].p.B l[i].p.ys.length l[i].p.b, .int .i64 l[i].el] 30)).heap.size (wr.alloc (.cells #[.int .i64 l[i].so, .bool l[i].bo, .bool l[i].p.s, .slice l[i].p.A l[i].p.xs.length l[i].p.a, .slice l[i].p.B l[i].p.ys.length l[i].p.b, .int .i64 l[i].el] 30)) W) => (hK1.next hb).s
      replace hS2 := hide hS2; replace hnx := hide hnx; replace hbk := hide hbk
      clear hB hb1 hK hst hQ hS hK1 hst2 hf hq hp
      generalize l[i] = v at *
      rw [hDD] at *
      generalize v.p.xs.length = j1 at *
      generalize v.p.ys.length = j2 at *
      generalize p.xs.length = k1 at *
      generalize p.ys.length = k2 at *
      have hlt' : (i : Int) < (n : Int) := by omega
      go_wp2_with (go_at_call 130; (with_reducible refine hS2.out.mono ?_); rintro e w1 ⟨r, rfl, h1, h3, h4, hb⟩; have kb := hbk.out w1 hb; obtain ⟨f0, f1, f2⟩ := free3 kb; clear z0 z1 z2; obtain ⟨z0, z1, z2⟩ := cells3 kb; have hn2 := hide (hnx.out w1 r hb h4); have hr := hide (And.intro h1 h3); clear kb h1 h3 h4 hb; generalize r.xs.length = m1 at *; generalize r.ys.length = m2 at *)
      go_roundw
      case rel => exact ⟨i + 1, r, hlt, by go_num, hr.out.1, hr.out.2, (hn2.out _ rfl).2⟩
      case measure => simp only [intOf]; omega
    · have hin : i = n := by omega
      subst hin
      have hE : ∀ F, F = ((wr.setCell ⟨w.heap.size, 0, none⟩ (.bool p.s)).setCell ⟨w.heap.size, 1, none⟩ (.slice p.A p.xs.length p.a)).setCell ⟨w.heap.size, 2, none⟩ (.slice p.B p.ys.length p.b) → Bk w.heap.size #[.bool p.s, .slice p.A p.xs.length p.a, .slice p.B p.ys.length p.b] 28 F ∧ p.At F ∧ Below w.heap.size w F := fun F hF => by
        obtain ⟨e1, e2, e3, _⟩ := end3 hK.b (Nat.le_refl _) hK.z ⟨rfl, rfl, rfl⟩ hF
        exact ⟨e1, ⟨e2 _ _ hK.a.1, e2 _ _ hK.a.2⟩, e3⟩
      obtain ⟨z0, z1, z2⟩ := cells3 hK.s
      obtain ⟨y0, y1, y2⟩ := cells3 hK.z
      obtain ⟨f0, f1, f2⟩ := free3 hK.z
      replace hE := hide hE
      have hr := hide (And.intro hq hp)
      clear hK hq hp hst hQ hS hf
      generalize hk1 : p.xs.length = k1 at *
      generalize hk2 : p.ys.length = k2 at *
      replace hk1 := hide hk1; replace hk2 := hide hk2
      go_wp2_with fail
      obtain ⟨F, hF⟩ : ∃ F, F = ((wr.setCell ⟨w.heap.size, 0, none⟩ (.bool p.s)).setCell ⟨w.heap.size, 1, none⟩ (.slice p.A k1 p.a)).setCell ⟨w.heap.size, 2, none⟩ (.slice p.B k2 p.b) := ⟨_, rfl⟩
      clear y0 y1 y2
      obtain ⟨hB, e1, e2⟩ := hE.out F hF
      obtain ⟨y0, y1, y2⟩ := cells3 hB
      rw [← hF]
      exact bodyPost_ret (v := .tuple #[.agg #[.bool p.s, .slice p.A k1 p.a, .slice p.B k2 p.b], .int .i64 0]) (by simp [results, Tryz.results106, go_sem, y0, y1, y2]) rfl ⟨p, by rw [hk1.out, hk2.out], hr.out.1, hr.out.2, e1, e2⟩
theorem reckoned14_v (A : Option Addr) (c : Nat) (a : Vl) (l : List Vl) (w : World) {Z : List Nat} (hl : Vs Z w A (a :: l)) (fl : ∀ v ∈ a :: l, v.p.Ok) (nl : l.length ≤ 100000) (n1 : 1 ≤ l.length) (hc : l.length + 1 ≤ c) (hm : c ≤ maxLen) (hf : ∀ i ≤ l.length, fitq (fQ 14 a.p.q (l.take i))) :
    Calls Tryz.prog 106 #[.int .i64 14, .slice A (l.length + 1) c] w (NwQ (fQ 14 a.p.q l) w) := by
  obtain ⟨D, hsl, hD⟩ := hl.tail (by simp) c (by simpa using hc) hm
  have hS := hide (fun (p : Pt) (hp : p.Ok) (v : Vl) (hv : v ∈ l) W (a1 : p.At W) (a2 : v.At W) (Z : Rat) (hZ : opQ 14 p.q v.p.q = Z) (f : fitq Z) => both14_v hp (fl v (List.mem_cons_of_mem _ hv)) W a1 a2 Z hZ f)
  have hQ := hide (fun W (b : Below w.heap.size w W) => Vs.next hD b)
  have aA := hl.2 a (by simp)
  have okA := fl a (by simp)
  have hst := Rk.start w a.p aA
  obtain ⟨g1, o1, rfl, _, x0, x1, x2, x3, x4, x5⟩ := hl.1.at6 (i := 0) (by simp)
  rw [Nat.zero_mul, Nat.add_zero] at x2 x3 x4
  rw [show (a :: l)[0] = a from rfl] at x2 x3 x4
  have u2 := cell_next (bl_al (.refl _ _) (.cells #[.bool false, .slice none 0 0, .slice none 0 0] 28)) x2
  have u3 := cell_next (bl_al (.refl _ _) (.cells #[.bool false, .slice none 0 0, .slice none 0 0] 28)) x3
  have u4 := cell_next (bl_al (.refl _ _) (.cells #[.bool false, .slice none 0 0, .slice none 0 0] 28)) x4
  rw [show (a :: l).drop 1 = l from rfl] at hQ
  rw [show (a :: l).length = l.length + 1 from rfl, Nat.add_sub_cancel] at hsl
  have hfin : fQ 14 a.p.q (l.take l.length) = fQ 14 a.p.q l := by rw [List.take_length]
  rw [← hfin]
  replace hf := hide hf; replace hst := hide hst; replace okA := hide okA; replace hfin := hide hfin
  clear hl hD fl aA x0 x1 x2 x3 x4 x5
  generalize hn : l.length = n at *
  have hn' := hide hn
  clear hn
  have hm' : c ≤ 9223372036854775807 := by unfold maxLen at hm; omega
  clear hm
  have hj : ((n : Int) + 1 == 1) = false := beq_eq_false_iff_ne.2 (by omega)
  have hj2 : ¬ ((n : Int) + 1 = 1) := by omega
  have hj3 : ¬ ((n : Int) = 0) := by omega
  have hj4 : ¬ (n = 0) := by omega
  unfold NwQ at *
  unfold rv at *
  generalize hi1 : a.p.xs.length = i1 at *
  generalize hi2 : a.p.ys.length = i2 at *
  replace hi1 := hide hi1; replace hi2 := hide hi2
  go_enter Tryz.func106, Tryz.ntmps106
  go_wp2_with fail
  go_loopw [28] (fun ix wr => ∃ (i : Nat) (p : Pt), i ≤ n ∧ ix = .int .i64 (i : Int) ∧ p.q = fQ 14 a.p.q (l.take i) ∧ p.Ok ∧ Rk w p wr) (fun ix _ => n - (intOf ix).toNat)
  case atStart => exact ⟨0, a.p, Nat.zero_le _, rfl, rfl, okA.out, by rw [← hi1.out, ← hi2.out]; first | exact hst.out | (rw [hi1.out, hi2.out]; exact hst.out)⟩
  case round =>
    obtain ⟨i, p, hi, rfl, hq, hp, hK⟩ := hrel
    by_cases hlt : i < n
    · have h2 : i < l.length := by rw [hn'.out]; exact hlt
      have hB := hQ.out wr hK.b
      obtain ⟨g2, o2, hDD, _, y0, y1, y2, y3, y4, y5⟩ := hB.1.at6 h2
      have hb1 : Below wr.heap.size wr (wr.alloc (.cells #[.int .i64 l[i].so, .bool l[i].bo, .bool l[i].p.s, .slice l[i].p.A l[i].p.xs.length l[i].p.a, .slice l[i].p.B l[i].p.ys.length l[i].p.b, .int .i64 l[i].el] 30)) := bl_al (.refl _ _) _
      have hst2 := fQ_step (op := 14) (q := a.p.q) h2
      rw [← hq] at hst2
      have hS2 := hS.out p hp l[i] (List.getElem_mem h2) _ (hK.a.next hb1) ((hB.2 _ (List.getElem_mem h2)).next hb1) _ hst2.symm (hf.out (i + 1) (by omega))
      have hK1 := hK.next hb1
      obtain ⟨z0, z1, z2⟩ := cells3 hK1.s
      have hnx := fun (W : World) (r : Pt) (hb : Below (wr.alloc (.cells #[.int .i64 l[i].so, .bool l[i].bo, .bool l[i].p.s, .slice l[i].p.A l[i].p.xs.length l[i].p.a, .slice l[i].p.B l[i].p.ys.length l[i].p.b, .int .i64 l[i].el] 30)).heap.size (wr.alloc (.cells #[.int .i64 l[i].so, .bool l[i].bo, .bool l[i].p.s, .slice l[i].p.A l[i].p.xs.length l[i].p.a, .slice l[i].p.B l[i].p.ys.length l[i].p.b, .int .i64 l[i].el] 30)) W) (aR : r.At W) F hF => And.intro (hK1.next hb).s ((hK1.next hb).set (F := F) aR hF)
      have hbk := fun (W : World) (hb : Below (wr.alloc (.cells #[.int .i64 l[i].so, .bool l[i].bo, .bool l[i].p.s, .slice l[i].p.A l[i].p.xs.length l[i].p.a, .slice l[i].p.B l[i].p.ys.length l[i].p.b, .int .i64 l[i].el] 30)).heap.size (wr.alloc (.cells #[.int .i64 l[i].so, .bool l[i].bo, .bool l[i].p.s, .slice l[i].p.A l[i].p.xs.length l[i].p.a, .slice l[i].p.B l[i].p.ys.length l[i].p.b, .int .i64 l[i].el] 30)) W) => (hK1.next hb).s
      replace hS2 := hide hS2; replace hnx := hide hnx; replace hbk := hide hbk
      clear hB hb1 hK hst hQ hS hK1 hst2 hf hq hp
      generalize l[i] = v at *
      rw [hDD] at *
      generalize v.p.xs.length = j1 at *
      generalize v.p.ys.length = j2 at *
      generalize p.xs.length = k1 at *
      generalize p.ys.length = k2 at *
      have hlt' : (i : Int) < (n : Int) := by omega
      go_wp2_with (go_at_call 130; (with_reducible refine hS2.out.mono ?_); rintro e w1 ⟨r, rfl, h1, h3, h4, hb⟩; have kb := hbk.out w1 hb; obtain ⟨f0, f1, f2⟩ := free3 kb; clear z0 z1 z2; obtain ⟨z0, z1, z2⟩ := cells3 kb; have hn2 := hide (hnx.out w1 r hb h4); have hr := hide (And.intro h1 h3); clear kb h1 h3 h4 hb; generalize r.xs.length = m1 at *; generalize r.ys.length = m2 at *)
      go_roundw
      case rel => exact ⟨i + 1, r, hlt, by go_num, hr.out.1, hr.out.2, (hn2.out _ rfl).2⟩
      case measure => simp only [intOf]; omega
    · have hin : i = n := by omega
      subst hin
      have hE : ∀ F, F = ((wr.setCell ⟨w.heap.size, 0, none⟩ (.bool p.s)).setCell ⟨w.heap.size, 1, none⟩ (.slice p.A p.xs.length p.a)).setCell ⟨w.heap.size, 2, none⟩ (.slice p.B p.ys.length p.b) → Bk w.heap.size #[.bool p.s, .slice p.A p.xs.length p.a, .slice p.B p.ys.length p.b] 28 F ∧ p.At F ∧ Below w.heap.size w F := fun F hF => by
        obtain ⟨e1, e2, e3, _⟩ := end3 hK.b (Nat.le_refl _) hK.z ⟨rfl, rfl, rfl⟩ hF
        exact ⟨e1, ⟨e2 _ _ hK.a.1, e2 _ _ hK.a.2⟩, e3⟩
      obtain ⟨z0, z1, z2⟩ := cells3 hK.s
      obtain ⟨y0, y1, y2⟩ := cells3 hK.z
      obtain ⟨f0, f1, f2⟩ := free3 hK.z
      replace hE := hide hE
      have hr := hide (And.intro hq hp)
      clear hK hq hp hst hQ hS hf
      generalize hk1 : p.xs.length = k1 at *
      generalize hk2 : p.ys.length = k2 at *
      replace hk1 := hide hk1; replace hk2 := hide hk2
      go_wp2_with fail
      obtain ⟨F, hF⟩ : ∃ F, F = ((wr.setCell ⟨w.heap.size, 0, none⟩ (.bool p.s)).setCell ⟨w.heap.size, 1, none⟩ (.slice p.A k1 p.a)).setCell ⟨w.heap.size, 2, none⟩ (.slice p.B k2 p.b) := ⟨_, rfl⟩
      clear y0 y1 y2
      obtain ⟨hB, e1, e2⟩ := hE.out F hF
      obtain ⟨y0, y1, y2⟩ := cells3 hB
      rw [← hF]
      exact bodyPost_ret (v := .tuple #[.agg #[.bool p.s, .slice p.A k1 p.a, .slice p.B k2 p.b], .int .i64 0]) (by simp [results, Tryz.results106, go_sem, y0, y1, y2]) rfl ⟨p, by rw [hk1.out, hk2.out], hr.out.1, hr.out.2, e1, e2⟩
theorem reckoned15_v (A : Option Addr) (c : Nat) (a : Vl) (l : List Vl) (w : World) {Z : List Nat} (hl : Vs Z w A (a :: l)) (fl : ∀ v ∈ a :: l, v.p.Ok) (nl : l.length ≤ 100000) (n1 : 1 ≤ l.length) (hc : l.length + 1 ≤ c) (hm : c ≤ maxLen) (hf : ∀ i ≤ l.length, fitq (fQ 15 a.p.q (l.take i))) :
    Calls Tryz.prog 106 #[.int .i64 15, .slice A (l.length + 1) c] w (NwQ (fQ 15 a.p.q l) w) := by
  obtain ⟨D, hsl, hD⟩ := hl.tail (by simp) c (by simpa using hc) hm
  have hS := hide (fun (p : Pt) (hp : p.Ok) (v : Vl) (hv : v ∈ l) W (a1 : p.At W) (a2 : v.At W) (Z : Rat) (hZ : opQ 15 p.q v.p.q = Z) (f : fitq Z) => both15_v hp (fl v (List.mem_cons_of_mem _ hv)) W a1 a2 Z hZ f)
  have hQ := hide (fun W (b : Below w.heap.size w W) => Vs.next hD b)
  have aA := hl.2 a (by simp)
  have okA := fl a (by simp)
  have hst := Rk.start w a.p aA
  obtain ⟨g1, o1, rfl, _, x0, x1, x2, x3, x4, x5⟩ := hl.1.at6 (i := 0) (by simp)
  rw [Nat.zero_mul, Nat.add_zero] at x2 x3 x4
  rw [show (a :: l)[0] = a from rfl] at x2 x3 x4
  have u2 := cell_next (bl_al (.refl _ _) (.cells #[.bool false, .slice none 0 0, .slice none 0 0] 28)) x2
  have u3 := cell_next (bl_al (.refl _ _) (.cells #[.bool false, .slice none 0 0, .slice none 0 0] 28)) x3
  have u4 := cell_next (bl_al (.refl _ _) (.cells #[.bool false, .slice none 0 0, .slice none 0 0] 28)) x4
  rw [show (a :: l).drop 1 = l from rfl] at hQ
  rw [show (a :: l).length = l.length + 1 from rfl, Nat.add_sub_cancel] at hsl
  have hfin : fQ 15 a.p.q (l.take l.length) = fQ 15 a.p.q l := by rw [List.take_length]
  rw [← hfin]
  replace hf := hide hf; replace hst := hide hst; replace okA := hide okA; replace hfin := hide hfin
  clear hl hD fl aA x0 x1 x2 x3 x4 x5
  generalize hn : l.length = n at *
  have hn' := hide hn
  clear hn
  have hm' : c ≤ 9223372036854775807 := by unfold maxLen at hm; omega
  clear hm
  have hj : ((n : Int) + 1 == 1) = false := beq_eq_false_iff_ne.2 (by omega)
  have hj2 : ¬ ((n : Int) + 1 = 1) := by omega
  have hj3 : ¬ ((n : Int) = 0) := by omega
  have hj4 : ¬ (n = 0) := by omega
  unfold NwQ at *
  unfold rv at *
  generalize hi1 : a.p.xs.length = i1 at *
  generalize hi2 : a.p.ys.length = i2 at *
  replace hi1 := hide hi1; replace hi2 := hide hi2
  go_enter Tryz.func106, Tryz.ntmps106
  go_wp2_with fail
  go_loopw [28] (fun ix wr => ∃ (i : Nat) (p : Pt), i ≤ n ∧ ix = .int .i64 (i : Int) ∧ p.q = fQ 15 a.p.q (l.take i) ∧ p.Ok ∧ Rk w p wr) (fun ix _ => n - (intOf ix).toNat)
  case atStart => exact ⟨0, a.p, Nat.zero_le _, rfl, rfl, okA.out, by rw [← hi1.out, ← hi2.out]; first | exact hst.out | (rw [hi1.out, hi2.out]; exact hst.out)⟩
  case round =>
    obtain ⟨i, p, hi, rfl, hq, hp, hK⟩ := hrel
    by_cases hlt : i < n
    · have h2 : i < l.length := by rw [hn'.out]; exact hlt
      have hB := hQ.out wr hK.b
      obtain ⟨g2, o2, hDD, _, y0, y1, y2, y3, y4, y5⟩ := hB.1.at6 h2
      have hb1 : Below wr.heap.size wr (wr.alloc (.cells #[.int .i64 l[i].so, .bool l[i].bo, .bool l[i].p.s, .slice l[i].p.A l[i].p.xs.length l[i].p.a, .slice l[i].p.B l[i].p.ys.length l[i].p.b, .int .i64 l[i].el] 30)) := bl_al (.refl _ _) _
      have hst2 := fQ_step (op := 15) (q := a.p.q) h2
      rw [← hq] at hst2
      have hS2 := hS.out p hp l[i] (List.getElem_mem h2) _ (hK.a.next hb1) ((hB.2 _ (List.getElem_mem h2)).next hb1) _ hst2.symm (hf.out (i + 1) (by omega))
      have hK1 := hK.next hb1
      obtain ⟨z0, z1, z2⟩ := cells3 hK1.s
      have hnx := fun (W : World) (r : Pt) (hb : Below (wr.alloc (.cells #[.int .i64 l[i].so, .bool l[i].bo, .bool l[i].p.s, .slice l[i].p.A l[i].p.xs.length l[i].p.a, .slice l[i].p.B l[i].p.ys.length l[i].p.b, .int .i64 l[i].el] 30)).heap.size (wr.alloc (.cells #[.int .i64 l[i].so, .bool l[i].bo, .bool l[i].p.s, .slice l[i].p.A l[i].p.xs.length l[i].p.a, .slice l[i].p.B l[i].p.ys.length l[i].p.b, .int .i64 l[i].el] 30)) W) (aR : r.At W) F hF => And.intro (hK1.next hb).s ((hK1.next hb).set (F := F) aR hF)
      have hbk := fun (W : World) (hb : Below (wr.alloc (.cells #[.int .i64 l[i].so, .bool l[i].bo, .bool l[i].p.s, .slice l[i].p.A l[i].p.xs.length l[i].p.a, .slice l[i].p.B l[i].p.ys.length l[i].p.b, .int .i64 l[i].el] 30)).heap.size (wr.alloc (.cells #[.int .i64 l[i].so, .bool l[i].bo, .bool l[i].p.s, .slice l[i].p.A l[i].p.xs.length l[i].p.a, .slice l[i].p.B l[i].p.ys.length l[i].p.b, .int .i64 l[i].el] 30)) W) => (hK1.next hb).s
      replace hS2 := hide hS2; replace hnx := hide hnx; replace hbk := hide hbk
      clear hB hb1 hK hst hQ hS hK1 hst2 hf hq hp
      generalize l[i] = v at *
      rw [hDD] at *
      generalize v.p.xs.length = j1 at *
      generalize v.p.ys.length = j2 at *
      generalize p.xs.length = k1 at *
      generalize p.ys.length = k2 at *
      have hlt' : (i : Int) < (n : Int) := by omega
      go_wp2_with (go_at_call 130; (with_reducible refine hS2.out.mono ?_); rintro e w1 ⟨r, rfl, h1, h3, h4, hb⟩; have kb := hbk.out w1 hb; obtain ⟨f0, f1, f2⟩ := free3 kb; clear z0 z1 z2; obtain ⟨z0, z1, z2⟩ := cells3 kb; have hn2 := hide (hnx.out w1 r hb h4); have hr := hide (And.intro h1 h3); clear kb h1 h3 h4 hb; generalize r.xs.length = m1 at *; generalize r.ys.length = m2 at *)
      go_roundw
      case rel => exact ⟨i + 1, r, hlt, by go_num, hr.out.1, hr.out.2, (hn2.out _ rfl).2⟩
      case measure => simp only [intOf]; omega
    · have hin : i = n := by omega
      subst hin
      have hE : ∀ F, F = ((wr.setCell ⟨w.heap.size, 0, none⟩ (.bool p.s)).setCell ⟨w.heap.size, 1, none⟩ (.slice p.A p.xs.length p.a)).setCell ⟨w.heap.size, 2, none⟩ (.slice p.B p.ys.length p.b) → Bk w.heap.size #[.bool p.s, .slice p.A p.xs.length p.a, .slice p.B p.ys.length p.b] 28 F ∧ p.At F ∧ Below w.heap.size w F := fun F hF => by
        obtain ⟨e1, e2, e3, _⟩ := end3 hK.b (Nat.le_refl _) hK.z ⟨rfl, rfl, rfl⟩ hF
        exact ⟨e1, ⟨e2 _ _ hK.a.1, e2 _ _ hK.a.2⟩, e3⟩
      obtain ⟨z0, z1, z2⟩ := cells3 hK.s
      obtain ⟨y0, y1, y2⟩ := cells3 hK.z
      obtain ⟨f0, f1, f2⟩ := free3 hK.z
      replace hE := hide hE
      have hr := hide (And.intro hq hp)
      clear hK hq hp hst hQ hS hf
      generalize hk1 : p.xs.length = k1 at *
      generalize hk2 : p.ys.length = k2 at *
      replace hk1 := hide hk1; replace hk2 := hide hk2
      go_wp2_with fail
      obtain ⟨F, hF⟩ : ∃ F, F = ((wr.setCell ⟨w.heap.size, 0, none⟩ (.bool p.s)).setCell ⟨w.heap.size, 1, none⟩ (.slice p.A k1 p.a)).setCell ⟨w.heap.size, 2, none⟩ (.slice p.B k2 p.b) := ⟨_, rfl⟩
      clear y0 y1 y2
      obtain ⟨hB, e1, e2⟩ := hE.out F hF
      obtain ⟨y0, y1, y2⟩ := cells3 hB
      rw [← hF]
      exact bodyPost_ret (v := .tuple #[.agg #[.bool p.s, .slice p.A k1 p.a, .slice p.B k2 p.b], .int .i64 0]) (by simp [results, Tryz.results106, go_sem, y0, y1, y2]) rfl ⟨p, by rw [hk1.out, hk2.out], hr.out.1, hr.out.2, e1, e2⟩
theorem reckoned16_v (A : Option Addr) (c : Nat) (a : Vl) (l : List Vl) (w : World) {Z : List Nat} (hl : Vs Z w A (a :: l)) (fl : ∀ v ∈ a :: l, v.p.Ok) (nl : l.length ≤ 100000) (n1 : 1 ≤ l.length) (hc : l.length + 1 ≤ c) (hm : c ≤ maxLen) (hf : ∀ i ≤ l.length, fitq (fQ 16 a.p.q (l.take i))) (h0 : ∀ v ∈ l, v.p.q ≠ 0) :
    Calls Tryz.prog 106 #[.int .i64 16, .slice A (l.length + 1) c] w (NwQ (fQ 16 a.p.q l) w) := by
  obtain ⟨D, hsl, hD⟩ := hl.tail (by simp) c (by simpa using hc) hm
  have hS := hide (fun (p : Pt) (hp : p.Ok) (v : Vl) (hv : v ∈ l) W (a1 : p.At W) (a2 : v.At W) (Z : Rat) (hZ : opQ 16 p.q v.p.q = Z) (f : fitq Z) => both16_v hp (fl v (List.mem_cons_of_mem _ hv)) W a1 a2 Z hZ (h0 v hv) f)
  have hQ := hide (fun W (b : Below w.heap.size w W) => Vs.next hD b)
  have aA := hl.2 a (by simp)
  have okA := fl a (by simp)
  have hst := Rk.start w a.p aA
  obtain ⟨g1, o1, rfl, _, x0, x1, x2, x3, x4, x5⟩ := hl.1.at6 (i := 0) (by simp)
  rw [Nat.zero_mul, Nat.add_zero] at x2 x3 x4
  rw [show (a :: l)[0] = a from rfl] at x2 x3 x4
  have u2 := cell_next (bl_al (.refl _ _) (.cells #[.bool false, .slice none 0 0, .slice none 0 0] 28)) x2
  have u3 := cell_next (bl_al (.refl _ _) (.cells #[.bool false, .slice none 0 0, .slice none 0 0] 28)) x3
  have u4 := cell_next (bl_al (.refl _ _) (.cells #[.bool false, .slice none 0 0, .slice none 0 0] 28)) x4
  rw [show (a :: l).drop 1 = l from rfl] at hQ
  rw [show (a :: l).length = l.length + 1 from rfl, Nat.add_sub_cancel] at hsl
  have hfin : fQ 16 a.p.q (l.take l.length) = fQ 16 a.p.q l := by rw [List.take_length]
  rw [← hfin]
  replace hf := hide hf; replace hst := hide hst; replace okA := hide okA; replace hfin := hide hfin
  clear hl hD fl aA x0 x1 x2 x3 x4 x5 h0
  generalize hn : l.length = n at *
  have hn' := hide hn
  clear hn
  have hm' : c ≤ 9223372036854775807 := by unfold maxLen at hm; omega
  clear hm
  have hj : ((n : Int) + 1 == 1) = false := beq_eq_false_iff_ne.2 (by omega)
  have hj2 : ¬ ((n : Int) + 1 = 1) := by omega
  have hj3 : ¬ ((n : Int) = 0) := by omega
  have hj4 : ¬ (n = 0) := by omega
  unfold NwQ at *
  unfold rv at *
  generalize hi1 : a.p.xs.length = i1 at *
  generalize hi2 : a.p.ys.length = i2 at *
  replace hi1 := hide hi1; replace hi2 := hide hi2
  go_enter Tryz.func106, Tryz.ntmps106
  go_wp2_with fail
  go_loopw [28] (fun ix wr => ∃ (i : Nat) (p : Pt), i ≤ n ∧ ix = .int .i64 (i : Int) ∧ p.q = fQ 16 a.p.q (l.take i) ∧ p.Ok ∧ Rk w p wr) (fun ix _ => n - (intOf ix).toNat)
  case atStart => exact ⟨0, a.p, Nat.zero_le _, rfl, rfl, okA.out, by rw [← hi1.out, ← hi2.out]; first | exact hst.out | (rw [hi1.out, hi2.out]; exact hst.out)⟩
  case round =>
    obtain ⟨i, p, hi, rfl, hq, hp, hK⟩ := hrel
    by_cases hlt : i < n
    · have h2 : i < l.length := by rw [hn'.out]; exact hlt
      have hB := hQ.out wr hK.b
      obtain ⟨g2, o2, hDD, _, y0, y1, y2, y3, y4, y5⟩ := hB.1.at6 h2
      have hb1 : Below wr.heap.size wr (wr.alloc (.cells #[.int .i64 l[i].so, .bool l[i].bo, .bool l[i].p.s, .slice l[i].p.A l[i].p.xs.length l[i].p.a, .slice l[i].p.B l[i].p.ys.length l[i].p.b, .int .i64 l[i].el] 30)) := bl_al (.refl _ _) _
      have hst2 := fQ_step (op := 16) (q := a.p.q) h2
      rw [← hq] at hst2
      have hS2 := hS.out p hp l[i] (List.getElem_mem h2) _ (hK.a.next hb1) ((hB.2 _ (List.getElem_mem h2)).next hb1) _ hst2.symm (hf.out (i + 1) (by omega))
      have hK1 := hK.next hb1
      obtain ⟨z0, z1, z2⟩ := cells3 hK1.s
      have hnx := fun (W : World) (r : Pt) (hb : Below (wr.alloc (.cells #[.int .i64 l[i].so, .bool l[i].bo, .bool l[i].p.s, .slice l[i].p.A l[i].p.xs.length l[i].p.a, .slice l[i].p.B l[i].p.ys.length l[i].p.b, .int .i64 l[i].el] 30)).heap.size (wr.alloc (.cells #[.int .i64 l[i].so, .bool l[i].bo, .bool l[i].p.s, .slice l[i].p.A l[i].p.xs.length l[i].p.a, .slice l[i].p.B l[i].p.ys.length l[i].p.b, .int .i64 l[i].el] 30)) W) (aR : r.At W) F hF => And.intro (hK1.next hb).s ((hK1.next hb).set (F := F) aR hF)
      have hbk := fun (W : World) (hb : Below (wr.alloc (.cells #[.int .i64 l[i].so, .bool l[i].bo, .bool l[i].p.s, .slice l[i].p.A l[i].p.xs.length l[i].p.a, .slice l[i].p.B l[i].p.ys.length l[i].p.b, .int .i64 l[i].el] 30)).heap.size (wr.alloc (.cells #[.int .i64 l[i].so, .bool l[i].bo, .bool l[i].p.s, .slice l[i].p.A l[i].p.xs.length l[i].p.a, .slice l[i].p.B l[i].p.ys.length l[i].p.b, .int .i64 l[i].el] 30)) W) => (hK1.next hb).s
      replace hS2 := hide hS2; replace hnx := hide hnx; replace hbk := hide hbk
      clear hB hb1 hK hst hQ hS hK1 hst2 hf hq hp
      generalize l[i] = v at *
      rw [hDD] at *
      generalize v.p.xs.length = j1 at *
      generalize v.p.ys.length = j2 at *
      generalize p.xs.length = k1 at *
      generalize p.ys.length = k2 at *
      have hlt' : (i : Int) < (n : Int) := by omega
      go_wp2_with (go_at_call 130; (with_reducible refine hS2.out.mono ?_); rintro e w1 ⟨r, rfl, h1, h3, h4, hb⟩; have kb := hbk.out w1 hb; obtain ⟨f0, f1, f2⟩ := free3 kb; clear z0 z1 z2; obtain ⟨z0, z1, z2⟩ := cells3 kb; have hn2 := hide (hnx.out w1 r hb h4); have hr := hide (And.intro h1 h3); clear kb h1 h3 h4 hb; generalize r.xs.length = m1 at *; generalize r.ys.length = m2 at *)
      go_roundw
      case rel => exact ⟨i + 1, r, hlt, by go_num, hr.out.1, hr.out.2, (hn2.out _ rfl).2⟩
      case measure => simp only [intOf]; omega
    · have hin : i = n := by omega
      subst hin
      have hE : ∀ F, F = ((wr.setCell ⟨w.heap.size, 0, none⟩ (.bool p.s)).setCell ⟨w.heap.size, 1, none⟩ (.slice p.A p.xs.length p.a)).setCell ⟨w.heap.size, 2, none⟩ (.slice p.B p.ys.length p.b) → Bk w.heap.size #[.bool p.s, .slice p.A p.xs.length p.a, .slice p.B p.ys.length p.b] 28 F ∧ p.At F ∧ Below w.heap.size w F := fun F hF => by
        obtain ⟨e1, e2, e3, _⟩ := end3 hK.b (Nat.le_refl _) hK.z ⟨rfl, rfl, rfl⟩ hF
        exact ⟨e1, ⟨e2 _ _ hK.a.1, e2 _ _ hK.a.2⟩, e3⟩
      obtain ⟨z0, z1, z2⟩ := cells3 hK.s
      obtain ⟨y0, y1, y2⟩ := cells3 hK.z
      obtain ⟨f0, f1, f2⟩ := free3 hK.z
      replace hE := hide hE
      have hr := hide (And.intro hq hp)
      clear hK hq hp hst hQ hS hf
      generalize hk1 : p.xs.length = k1 at *
      generalize hk2 : p.ys.length = k2 at *
      replace hk1 := hide hk1; replace hk2 := hide hk2
      go_wp2_with fail
      obtain ⟨F, hF⟩ : ∃ F, F = ((wr.setCell ⟨w.heap.size, 0, none⟩ (.bool p.s)).setCell ⟨w.heap.size, 1, none⟩ (.slice p.A k1 p.a)).setCell ⟨w.heap.size, 2, none⟩ (.slice p.B k2 p.b) := ⟨_, rfl⟩
      clear y0 y1 y2
      obtain ⟨hB, e1, e2⟩ := hE.out F hF
      obtain ⟨y0, y1, y2⟩ := cells3 hB
      rw [← hF]
      exact bodyPost_ret (v := .tuple #[.agg #[.bool p.s, .slice p.A k1 p.a, .slice p.B k2 p.b], .int .i64 0]) (by simp [results, Tryz.results106, go_sem, y0, y1, y2]) rfl ⟨p, by rw [hk1.out, hk2.out], hr.out.1, hr.out.2, e1, e2⟩
theorem reckoned1_v (A : Option Addr) (c : Nat) (a : Vl) (w : World) {Z : List Nat} (hl : Vs Z w A [a]) (okA : a.p.Ok) (q : Rat) (hq : 0 - a.p.q = q) (hf : fitq q) :
    Calls Tryz.prog 106 #[.int .i64 14, .slice A 1 c] w (NwQ q w) := by
  have aA := hl.2 a (by simp)
  obtain ⟨g1, o1, rfl, _, x0, x1, x2, x3, x4, x5⟩ := hl.1.at6 (i := 0) (by simp)
  rw [Nat.zero_mul, Nat.add_zero] at x2 x3 x4
  rw [show [a][0] = a from rfl] at x2 x3 x4
  have hb0 : Below w.heap.size w (w.alloc (.cells #[.bool false, .slice none 0 0, .slice none 0 0] 28)).drew := (bl_al (.refl _ _) _).drew
  have hO := hide (fun W => of_0 W)
  have hS := hide (fun (p : Pt) (h0 : p.q = 0) (hp : p.Ok) W (aP : p.At W) (hb : Below w.heap.size w W) => subP hp okA W aP (aA.next hb) q (by rw [h0]; exact hq) hf)
  have hbk := hide (fun W (hb : Below w.heap.size w W) => And.intro (cell_next hb x2) (And.intro (cell_next hb x3) (cell_next hb x4)))
  have hE : ∀ W (z : Pt), Below (w.alloc (.cells #[.bool false, .slice none 0 0, .slice none 0 0] 28)).heap.size (w.alloc (.cells #[.bool false, .slice none 0 0, .slice none 0 0] 28)) W → z.At W → Bk w.heap.size #[.bool false, .slice none 0 0, .slice none 0 0] 28 W ∧ ∀ F, F = ((W.setCell ⟨w.heap.size, 0, none⟩ (.bool z.s)).setCell ⟨w.heap.size, 1, none⟩ (.slice z.A z.xs.length z.a)).setCell ⟨w.heap.size, 2, none⟩ (.slice z.B z.ys.length z.b) → Bk w.heap.size #[.bool z.s, .slice z.A z.xs.length z.a, .slice z.B z.ys.length z.b] 28 F ∧ z.At F ∧ Below w.heap.size w F := fun W z hb aZ => by
    have hz : Bk w.heap.size #[.bool false, .slice none 0 0, .slice none 0 0] 28 W := (Bk.new _ _ w).next hb
    refine ⟨hz, fun F hF => ?_⟩
    obtain ⟨e1, e2, e3, _⟩ := end3 (bl_trans (bl_al (.refl _ _) _) hb) (Nat.le_refl _) hz ⟨rfl, rfl, rfl⟩ hF
    exact ⟨e1, ⟨e2 _ _ aZ.1, e2 _ _ aZ.2⟩, e3⟩
  have hbd : Below (w.alloc (.cells #[.bool false, .slice none 0 0, .slice none 0 0] 28)).heap.size (w.alloc (.cells #[.bool false, .slice none 0 0, .slice none 0 0] 28)) (w.alloc (.cells #[.bool false, .slice none 0 0, .slice none 0 0] 28)).drew := (Below.refl _ _).drew
  have hbu := hide (fun W (hb : Below (w.alloc (.cells #[.bool false, .slice none 0 0, .slice none 0 0] 28)).heap.size (w.alloc (.cells #[.bool false, .slice none 0 0, .slice none 0 0] 28)) W) => (bl_trans (bl_al (.refl _ _) (.cells #[.bool false, .slice none 0 0, .slice none 0 0] 28)) hb : Below w.heap.size w W))
  have u2 := cell_next (bl_al (.refl _ _) (.cells #[.bool false, .slice none 0 0, .slice none 0 0] 28)) x2
  have u3 := cell_next (bl_al (.refl _ _) (.cells #[.bool false, .slice none 0 0, .slice none 0 0] 28)) x3
  have u4 := cell_next (bl_al (.refl _ _) (.cells #[.bool false, .slice none 0 0, .slice none 0 0] 28)) x4
  replace hE := hide hE; replace hbd := hide hbd
  clear hl aA okA hq hf x0 x1 x2 x3 x4 x5 hb0
  unfold NwQ at *
  unfold rv at *
  generalize a.p.xs.length = i1 at *
  generalize a.p.ys.length = i2 at *
  go_enter Tryz.func106, Tryz.ntmps106
  go_wp2_with fail
  go_region_with (first
    | (go_at_call 40; (with_reducible refine (hO.out _).mono ?_); rintro e w1 ⟨p, rfl, h1, h2, h3, hb1⟩; have kb1 := bl_trans hbd.out hb1; have kw1 := hbu.out w1 kb1; have hS1 := hide (hS.out p h1 h2 w1 h3 kw1); obtain ⟨v2, v3, v4⟩ := hbk.out w1 kw1; clear h1 h2 h3 hb1 kw1; replace kb1 := hide kb1; generalize p.xs.length = j1 at *; generalize p.ys.length = j2 at *)
    | (go_at_call 129; (with_reducible refine hS1.out.mono ?_); rintro e w2 ⟨z, rfl, h1, h2, h3, hb2⟩; obtain ⟨hz, he⟩ := hE.out w2 z (bl_trans kb1.out hb2) h3; obtain ⟨z0, z1, z2⟩ := cells3 hz; obtain ⟨f0, f1, f2⟩ := free3 hz; have hk := hide (And.intro h1 h2); clear hz h1 h2 h3 hb2; replace he := hide he; generalize hi1 : z.xs.length = k1 at *; generalize hi2 : z.ys.length = k2 at *; replace hi1 := hide hi1; replace hi2 := hide hi2))
  all_goals
    obtain ⟨F, hF⟩ : ∃ F, F = ((w2.setCell ⟨w.heap.size, 0, none⟩ (.bool z.s)).setCell ⟨w.heap.size, 1, none⟩ (.slice z.A k1 z.a)).setCell ⟨w.heap.size, 2, none⟩ (.slice z.B k2 z.b) := ⟨_, rfl⟩
    clear z0 z1 z2
    obtain ⟨hB, e1, e2⟩ := he.out F hF
    obtain ⟨z0, z1, z2⟩ := cells3 hB
    rw [← hF]
    clear hB hF he
    go_wp2_with fail
    exact bodyPost_ret (v := .tuple #[.agg #[.bool z.s, .slice z.A k1 z.a, .slice z.B k2 z.b], .int .i64 0]) (by simp [results, Tryz.results106, go_sem, z0, z1, z2]) rfl ⟨z, by rw [hi1.out, hi2.out], hk.out.1, hk.out.2, e1, e2⟩
end
section
open Go.ChangeShapes Go.RowKit
def Nwv (o : CV) (W : World) (e : Ending) (w' : World) : Prop := ∃ u : Vl, e = .returned (.tuple #[u.v, .int .i64 0]) ∧ u.cn = o ∧ u.At w' ∧ u.Few ∧ Below W.heap.size W w'
section
variable {W : World} {g : Nat} {op so : Int} {nm : ByteArray} {ng : Bool} {An Bn Cn : Option Addr} {n1 n2 n3 ka kb ke : Nat}
theorem mbox (W1 : World) (hb : Below ((W.alloc (.cells #[.int .i64 op, .string nm, .bool ng, .slice An n1 ka, .slice Bn n2 kb, .slice Cn n3 ke, .int .i64 so] 115)).alloc (.cells #[.int .i64 0, .bool false, .bool false, .slice none 0 0, .slice none 0 0, .int .i64 0] 30)).heap.size ((W.alloc (.cells #[.int .i64 op, .string nm, .bool ng, .slice An n1 ka, .slice Bn n2 kb, .slice Cn n3 ke, .int .i64 so] 115)).alloc (.cells #[.int .i64 0, .bool false, .bool false, .slice none 0 0, .slice none 0 0, .int .i64 0] 30)) W1) : Bk W.heap.size #[.int .i64 op, .string nm, .bool ng, .slice An n1 ka, .slice Bn n2 kb, .slice Cn n3 ke, .int .i64 so] 115 W1 ∧ Bk (W.heap.size + 1) zV 30 W1 ∧ Below W.heap.size W W1 :=
  ⟨((Bk.new _ _ W).al _).next hb, (Bk.new1 _ _ W _).next hb, bl_trans (bl_al (bl_al (.refl _ _) _) _) hb⟩
theorem mend (W1 : World) (hb : Below ((W.alloc (.cells #[.int .i64 op, .string nm, .bool ng, .slice An n1 ka, .slice Bn n2 kb, .slice Cn n3 ke, .int .i64 so] 115)).alloc (.cells #[.int .i64 0, .bool false, .bool false, .slice none 0 0, .slice none 0 0, .int .i64 0] 30)).heap.size ((W.alloc (.cells #[.int .i64 op, .string nm, .bool ng, .slice An n1 ka, .slice Bn n2 kb, .slice Cn n3 ke, .int .i64 so] 115)).alloc (.cells #[.int .i64 0, .bool false, .bool false, .slice none 0 0, .slice none 0 0, .int .i64 0] 30)) W1) (u : Vl) (aU : u.At W1) (fU : u.Few) (F : World) (hF : F = set6 W1 (W.heap.size + 1) (.int .i64 u.so) (.bool u.bo) (.bool u.p.s) (.slice u.p.A u.p.xs.length u.p.a) (.slice u.p.B u.p.ys.length u.p.b) (.int .i64 u.el)) : C6 (W.heap.size + 1) (.int .i64 u.so) (.bool u.bo) (.bool u.p.s) (.slice u.p.A u.p.xs.length u.p.a) (.slice u.p.B u.p.ys.length u.p.b) (.int .i64 u.el) F ∧ Nwv u.cn W (.returned (.tuple #[.agg #[.int .i64 u.so, .bool u.bo, .bool u.p.s, .slice u.p.A u.p.xs.length u.p.a, .slice u.p.B u.p.ys.length u.p.b, .int .i64 u.el], .int .i64 0])) F := by
  obtain ⟨_, hz, hbw⟩ := mbox W1 hb
  obtain ⟨e1, e2, e3, _⟩ := end6 hbw (by omega) hz hF
  exact ⟨e1, u, rfl, rfl, aU.lk e2, fU, e3⟩
theorem made_num {nu de : List Nat} (hA : Sl W An nu) (hB : Sl W Bn de) (lA : Limbs nu) (lB : Limbs de) (nA : nu.length ≤ 64) (nB : de.length ≤ 64) (g : Nat) (C : Option Addr) (n c : Nat) (e1 : nu.length = n1) (e2 : de.length = n2) :
    Calls Tryz.prog 84 #[.pointer (some ⟨g, 0, none⟩), .agg #[.int .i64 11, .string nm, .bool ng, .slice An n1 ka, .slice Bn n2 kb, .slice Cn n3 ke, .int .i64 so], .slice C n c] W (Nwv (1, false, (ng, nu, de), 0) W) := by
  subst e1 e2
  have hb0 : Below W.heap.size W ((W.alloc (.cells #[.int .i64 11, .string nm, .bool ng, .slice An nu.length ka, .slice Bn de.length kb, .slice Cn n3 ke, .int .i64 so] 115)).alloc (.cells #[.int .i64 0, .bool false, .bool false, .slice none 0 0, .slice none 0 0, .int .i64 0] 30)) := bl_al (bl_al (.refl _ _) _) _
  have hat : (⟨ng, An, ka, nu, Bn, kb, de, 0⟩ : Pt).At ((W.alloc (.cells #[.int .i64 11, .string nm, .bool ng, .slice An nu.length ka, .slice Bn de.length kb, .slice Cn n3 ke, .int .i64 so] 115)).alloc (.cells #[.int .i64 0, .bool false, .bool false, .slice none 0 0, .slice none 0 0, .int .i64 0] 30)) := ⟨kp' hb0 hA, kp' hb0 hB⟩
  have hN := number_v ⟨ng, An, ka, nu, Bn, kb, de, 0⟩ _ hat
  unfold rv nmV Vl.v at hN
  dsimp only at hN
  have hst := fun (W1 : World) (hb : Below ((W.alloc (.cells #[.int .i64 11, .string nm, .bool ng, .slice An nu.length ka, .slice Bn de.length kb, .slice Cn n3 ke, .int .i64 so] 115)).alloc (.cells #[.int .i64 0, .bool false, .bool false, .slice none 0 0, .slice none 0 0, .int .i64 0] 30)).heap.size ((W.alloc (.cells #[.int .i64 11, .string nm, .bool ng, .slice An nu.length ka, .slice Bn de.length kb, .slice Cn n3 ke, .int .i64 so] 115)).alloc (.cells #[.int .i64 0, .bool false, .bool false, .slice none 0 0, .slice none 0 0, .int .i64 0] 30)) W1) => And.intro (mbox W1 hb) (fun (F : World) => mend W1 hb ⟨1, false, ⟨ng, An, ka, nu, Bn, kb, de, 0⟩, 0⟩ (hat.next hb) ⟨⟨lA, lB, Nat.le_trans nA (by decide), Nat.le_trans nB (by decide)⟩, Nat.le_trans nA (by decide), Nat.le_trans nB (by decide)⟩ F)
  obtain ⟨p0, p1, p2, p3, p4, p5, p6⟩ := cells7 (hst _ (.refl _ _)).1.1
  replace hN := hide hN; replace hst := hide hst
  clear hA hB lA lB nA nB hb0 hat
  unfold Vl.cn Pt.con at hst
  dsimp only at hst
  generalize nu.length = n1 at *
  generalize de.length = n2 at *
  go_enter Tryz.func84, Tryz.ntmps84
  go_wp2_with (go_at_call 39; (with_reducible refine hN.out.mono ?_); rintro e w1 ⟨rfl, -, hb⟩; obtain ⟨⟨_, hz, _⟩, he⟩ := hst.out w1 hb; obtain ⟨z0, z1, z2, z3, z4, z5⟩ : C6 (W.heap.size + 1) _ _ _ _ _ _ w1 := C6.of hz; obtain ⟨f0, f1, f2, f3, f4, f5⟩ := free6 hz; replace he := hide he; clear hz hb)
  obtain ⟨F, hF⟩ : ∃ F, F = set6 w1 (W.heap.size + 1) (.int .i64 1) (.bool false) (.bool ng) (.slice An n1 ka) (.slice Bn n2 kb) (.int .i64 0) := ⟨_, rfl⟩
  clear z0 z1 z2 z3 z4 z5
  obtain ⟨⟨z0, z1, z2, z3, z4, z5⟩, e1⟩ := he.out F hF
  unfold set6 at hF
  rw [← hF]
  exact bodyPost_ret (v := .tuple #[.agg #[.int .i64 1, .bool false, .bool ng, .slice An n1 ka, .slice Bn n2 kb, .int .i64 0], .int .i64 0]) (by simp [results, Tryz.results84, go_sem, z0, z1, z2, z3, z4, z5]) rfl e1
theorem made_holds (hop : op < 10 ∨ 16 < op) (g : Nat) (C : Option Addr) (n c : Nat) (b : Bool) (hH : ∀ W1, Below W.heap.size W W1 → Calls Tryz.prog 107 #[.int .i64 op, .slice C n c] W1 fun e w' => e = .returned (.bool b) ∧ Below W1.heap.size W1 w') :
    Calls Tryz.prog 84 #[.pointer (some ⟨g, 0, none⟩), .agg #[.int .i64 op, .string nm, .bool ng, .slice An n1 ka, .slice Bn n2 kb, .slice Cn n3 ke, .int .i64 so], .slice C n c] W (Nwv (0, b, (false, [], []), 0) W) := by
  have qq : ∀ k : Int, 10 ≤ k → k ≤ 16 → binOp .eql 3 (.int .i64 op) (.int .i64 k) = pure (.bool false) := fun k h1 h2 => by
    show pure (Value.bool (decide (op = k))) = _
    rw [decide_eq_false (by omega)]
  have q10 := qq 10 (by decide) (by decide)
  have q11 := qq 11 (by decide) (by decide)
  have q12 := qq 12 (by decide) (by decide)
  have q13 := qq 13 (by decide) (by decide)
  have q14 := qq 14 (by decide) (by decide)
  have q15 := qq 15 (by decide) (by decide)
  have q16 := qq 16 (by decide) (by decide)
  have hb0 : Below W.heap.size W ((W.alloc (.cells #[.int .i64 op, .string nm, .bool ng, .slice An n1 ka, .slice Bn n2 kb, .slice Cn n3 ke, .int .i64 so] 115)).alloc (.cells #[.int .i64 0, .bool false, .bool false, .slice none 0 0, .slice none 0 0, .int .i64 0] 30)) := bl_al (bl_al (.refl _ _) _) _
  have hN := hH _ hb0
  have hst := fun (W1 : World) (hb : Below ((W.alloc (.cells #[.int .i64 op, .string nm, .bool ng, .slice An n1 ka, .slice Bn n2 kb, .slice Cn n3 ke, .int .i64 so] 115)).alloc (.cells #[.int .i64 0, .bool false, .bool false, .slice none 0 0, .slice none 0 0, .int .i64 0] 30)).heap.size ((W.alloc (.cells #[.int .i64 op, .string nm, .bool ng, .slice An n1 ka, .slice Bn n2 kb, .slice Cn n3 ke, .int .i64 so] 115)).alloc (.cells #[.int .i64 0, .bool false, .bool false, .slice none 0 0, .slice none 0 0, .int .i64 0] 30)) W1) => And.intro (mbox W1 hb) (fun (F : World) => mend W1 hb ⟨0, b, ⟨false, none, 0, [], none, 0, [], 0⟩, 0⟩ ⟨.inl rfl, .inl rfl⟩ ⟨⟨by simp [Limbs], by simp [Limbs], by simp, by simp⟩, by simp, by simp⟩ F)
  obtain ⟨p0, p1, p2, p3, p4, p5, p6⟩ := cells7 (hst _ (.refl _ _)).1.1
  replace hN := hide hN; replace hst := hide hst
  clear hH hb0 qq hop
  unfold Vl.cn Pt.con at hst
  simp only [List.length_nil] at hst
  go_enter Tryz.func84, Tryz.ntmps84
  go_wp2_with (go_at_call 107; (with_reducible refine hN.out.mono ?_); rintro e w1 ⟨rfl, hb⟩; obtain ⟨⟨_, hz, _⟩, he⟩ := hst.out w1 hb; obtain ⟨z0, z1, z2, z3, z4, z5⟩ : C6 (W.heap.size + 1) _ _ _ _ _ _ w1 := C6.of hz; obtain ⟨f0, f1, f2, f3, f4, f5⟩ := free6 hz; replace he := hide he; clear hz hb)
  obtain ⟨F, hF⟩ : ∃ F, F = set6 w1 (W.heap.size + 1) (.int .i64 0) (.bool b) (.bool false) (.slice none 0 0) (.slice none 0 0) (.int .i64 0) := ⟨_, rfl⟩
  clear z0 z1 z2 z3 z4 z5
  obtain ⟨⟨z0, z1, z2, z3, z4, z5⟩, e1⟩ := he.out F hF
  unfold set6 at hF
  rw [← hF]
  exact bodyPost_ret (v := .tuple #[.agg #[.int .i64 0, .bool b, .bool false, .slice none 0 0, .slice none 0 0, .int .i64 0], .int .i64 0]) (by simp [results, Tryz.results84, go_sem, z0, z1, z2, z3, z4, z5]) rfl e1
theorem made_reck (hop : op = 13 ∨ op = 14 ∨ op = 15 ∨ op = 16) (g : Nat) (C : Option Addr) (n c : Nat) (q : Rat) (hH : ∀ W1, Below W.heap.size W W1 → Calls Tryz.prog 106 #[.int .i64 op, .slice C n c] W1 (NwQ q W1)) :
    Calls Tryz.prog 84 #[.pointer (some ⟨g, 0, none⟩), .agg #[.int .i64 op, .string nm, .bool ng, .slice An n1 ka, .slice Bn n2 kb, .slice Cn n3 ke, .int .i64 so], .slice C n c] W (Nwv (1, false, (qs q, digs (qn q), digs (qd q)), 0) W) := by
  have hb0 : Below W.heap.size W ((W.alloc (.cells #[.int .i64 op, .string nm, .bool ng, .slice An n1 ka, .slice Bn n2 kb, .slice Cn n3 ke, .int .i64 so] 115)).alloc (.cells #[.int .i64 0, .bool false, .bool false, .slice none 0 0, .slice none 0 0, .int .i64 0] 30)) := bl_al (bl_al (.refl _ _) _) _
  have hN := hH _ hb0
  have hst := fun (W1 : World) (hb : Below ((W.alloc (.cells #[.int .i64 op, .string nm, .bool ng, .slice An n1 ka, .slice Bn n2 kb, .slice Cn n3 ke, .int .i64 so] 115)).alloc (.cells #[.int .i64 0, .bool false, .bool false, .slice none 0 0, .slice none 0 0, .int .i64 0] 30)).heap.size ((W.alloc (.cells #[.int .i64 op, .string nm, .bool ng, .slice An n1 ka, .slice Bn n2 kb, .slice Cn n3 ke, .int .i64 so] 115)).alloc (.cells #[.int .i64 0, .bool false, .bool false, .slice none 0 0, .slice none 0 0, .int .i64 0] 30)) W1) => mbox W1 hb
  have hfi := fun (W1 : World) (r : Pt) (hb : Below ((W.alloc (.cells #[.int .i64 op, .string nm, .bool ng, .slice An n1 ka, .slice Bn n2 kb, .slice Cn n3 ke, .int .i64 so] 115)).alloc (.cells #[.int .i64 0, .bool false, .bool false, .slice none 0 0, .slice none 0 0, .int .i64 0] 30)).heap.size ((W.alloc (.cells #[.int .i64 op, .string nm, .bool ng, .slice An n1 ka, .slice Bn n2 kb, .slice Cn n3 ke, .int .i64 so] 115)).alloc (.cells #[.int .i64 0, .bool false, .bool false, .slice none 0 0, .slice none 0 0, .int .i64 0] 30)) W1) (h1 : r.q = q) (h2 : r.Ok) (h3 : r.At W1) (F : World) hF => (show (nmV r).cn = (1, false, (qs q, digs (qn q), digs (qd q)), 0) by unfold Vl.cn nmV Pt.con; dsimp only; rw [h2.s, h2.x, h2.y, h1]) ▸ mend W1 hb (nmV r) h3 (h2.few' _ rfl) F hF
  have hNu := fun (r : Pt) (W1 : World) (h : r.At W1) => number_v r W1 h
  obtain ⟨p0, p1, p2, p3, p4, p5, p6⟩ := cells7 (hst _ (.refl _ _)).1
  unfold NwQ at hN
  unfold rv nmV Vl.v at *
  dsimp only at hN hNu hfi
  replace hN := hide hN; replace hst := hide hst; replace hfi := hide hfi; replace hNu := hide hNu
  clear hH hb0
  rcases hop with rfl | rfl | rfl | rfl
  all_goals
    go_enter Tryz.func84, Tryz.ntmps84
    go_wp2_with (first
      | (go_at_call 106; (with_reducible refine hN.out.mono ?_); rintro e w1 ⟨r, rfl, h1, h2, h3, hb⟩; have hb1 := hide (bl_trans hb (bl_al (.refl _ _) (.cells #[.bool r.s, .slice r.A r.xs.length r.a, .slice r.B r.ys.length r.b] 28))); have h3' := h3.next (bl_al (.refl _ _) (.cells #[.bool r.s, .slice r.A r.xs.length r.a, .slice r.B r.ys.length r.b] 28)); have hN2 := hide (hNu.out r _ h3'); have hk := hide (And.intro h1 h2); clear h1 h2 h3 h3' hb)
      | (go_at_call 39; (with_reducible refine hN2.out.mono ?_); rintro e w2 ⟨rfl, h3, hb⟩; have hb2 := bl_trans hb1.out hb; obtain ⟨_, hz, _⟩ := hst.out w2 hb2; obtain ⟨z0, z1, z2, z3, z4, z5⟩ : C6 (W.heap.size + 1) _ _ _ _ _ _ w2 := C6.of hz; obtain ⟨f0, f1, f2, f3, f4, f5⟩ := free6 hz; have he := hide (hfi.out w2 r hb2 hk.out.1 hk.out.2 h3); clear hz hb hb2 h3; generalize r.xs.length = k1 at *; generalize r.ys.length = k2 at *))
    obtain ⟨F, hF⟩ : ∃ F, F = set6 w2 (W.heap.size + 1) (.int .i64 1) (.bool false) (.bool r.s) (.slice r.A k1 r.a) (.slice r.B k2 r.b) (.int .i64 0) := ⟨_, rfl⟩
    clear z0 z1 z2 z3 z4 z5
    obtain ⟨⟨z0, z1, z2, z3, z4, z5⟩, e1⟩ := he.out F hF
    unfold set6 at hF
    rw [← hF]
    exact bodyPost_ret (v := .tuple #[.agg #[.int .i64 1, .bool false, .bool r.s, .slice r.A k1 r.a, .slice r.B k2 r.b, .int .i64 0], .int .i64 0]) (by simp [results, Tryz.results84, go_sem, z0, z1, z2, z3, z4, z5]) rfl e1
end
end
section
open Go.ChangeShapes Go.RowKit
section
variable {W : World} {g tm N : Nat} {so : Int} {nm : ByteArray} {ng : Bool} {An Bn Cn : Option Addr} {n1 n2 n3 ka kb ke : Nat} {tbs : List Tr}
theorem made_app (hg : W.cell? ⟨g, 1, none⟩ = some (.map (some tm))) (hm : Tm W tm N tbs) (hs : nm.size ≤ maxLen) (t : Tr) (ht : findT tbs nm.data.toList = some t) {Z Z' : List Nat} (aT : t.At Z W) (fT : t.Few) (C : Option Addr) (c : Nat) (av : List Vl) (hC : Vs Z' W C av) (fa : ∀ a ∈ av, a.Few) (na : av.length ≤ 100000) :
    Calls Tryz.prog 84 #[.pointer (some ⟨g, 0, none⟩), .agg #[.int .i64 12, .string nm, .bool ng, .slice An n1 ka, .slice Bn n2 kb, .slice Cn n3 ke, .int .i64 so], .slice C av.length c] W (Nwv (applyL t.l av t.e).cn W) := by
  obtain ⟨u, hu⟩ : ∃ u, applyL t.l av t.e = u := ⟨_, rfl⟩
  have fU : u.Few := by rw [← hu]; exact applyL_few t fT av
  have hb0 : Below W.heap.size W ((W.alloc (.cells #[.int .i64 12, .string nm, .bool ng, .slice An n1 ka, .slice Bn n2 kb, .slice Cn n3 ke, .int .i64 so] 115)).alloc (.cells #[.int .i64 0, .bool false, .bool false, .slice none 0 0, .slice none 0 0, .int .i64 0] 30)) := bl_al (bl_al (.refl _ _) _) _
  have hbd : Below W.heap.size W ((W.alloc (.cells #[.int .i64 12, .string nm, .bool ng, .slice An n1 ka, .slice Bn n2 kb, .slice Cn n3 ke, .int .i64 so] 115)).alloc (.cells #[.int .i64 0, .bool false, .bool false, .slice none 0 0, .slice none 0 0, .int .i64 0] 30)).drew := hb0.drew
  have hb1 : Below W.heap.size W (((W.alloc (.cells #[.int .i64 12, .string nm, .bool ng, .slice An n1 ka, .slice Bn n2 kb, .slice Cn n3 ke, .int .i64 so] 115)).alloc (.cells #[.int .i64 0, .bool false, .bool false, .slice none 0 0, .slice none 0 0, .int .i64 0] 30)).alloc (.cells #[.string ⟨#[]⟩, .slice none 0 0, .int .i64 0, .bool false, .bool false, .slice none 0 0, .slice none 0 0, .int .i64 0] 37)).drew := (bl_al hb0 _).drew
  have hbt : Below W.heap.size W (((W.alloc (.cells #[.int .i64 12, .string nm, .bool ng, .slice An n1 ka, .slice Bn n2 kb, .slice Cn n3 ke, .int .i64 so] 115)).alloc (.cells #[.int .i64 0, .bool false, .bool false, .slice none 0 0, .slice none 0 0, .int .i64 0] 30)).alloc (.cells #[.string t.nm, .slice t.A t.l.length t.c, .int .i64 t.e.so, .bool t.e.bo, .bool t.e.p.s, .slice t.e.p.A t.e.p.xs.length t.e.p.a, .slice t.e.p.B t.e.p.ys.length t.e.p.b, .int .i64 t.e.el] 37)).drew := (bl_al hb0 _).drew
  have hk0 := (hm.next hbd).look nm hs (some t) ht
  have hk1 := (hm.next hb1).look nm hs (some t) ht
  rw [show ((some t).getD zTr) = t from rfl, show (some t).isSome = true from rfl] at hk0 hk1
  have hA := applied_v t C c av _ (aT.next hbt) fT (hC.next hbt) fa na
  rw [hu] at hA ⊢
  have hst := fun (W1 : World) (hb : Below (((W.alloc (.cells #[.int .i64 12, .string nm, .bool ng, .slice An n1 ka, .slice Bn n2 kb, .slice Cn n3 ke, .int .i64 so] 115)).alloc (.cells #[.int .i64 0, .bool false, .bool false, .slice none 0 0, .slice none 0 0, .int .i64 0] 30)).alloc (.cells #[.string t.nm, .slice t.A t.l.length t.c, .int .i64 t.e.so, .bool t.e.bo, .bool t.e.p.s, .slice t.e.p.A t.e.p.xs.length t.e.p.a, .slice t.e.p.B t.e.p.ys.length t.e.p.b, .int .i64 t.e.el] 37)).drew.heap.size (((W.alloc (.cells #[.int .i64 12, .string nm, .bool ng, .slice An n1 ka, .slice Bn n2 kb, .slice Cn n3 ke, .int .i64 so] 115)).alloc (.cells #[.int .i64 0, .bool false, .bool false, .slice none 0 0, .slice none 0 0, .int .i64 0] 30)).alloc (.cells #[.string t.nm, .slice t.A t.l.length t.c, .int .i64 t.e.so, .bool t.e.bo, .bool t.e.p.s, .slice t.e.p.A t.e.p.xs.length t.e.p.a, .slice t.e.p.B t.e.p.ys.length t.e.p.b, .int .i64 t.e.el] 37)).drew W1) (aU : u.At W1) => And.intro (mbox (op := 12) W1 (bl_trans (bl_al (Below.refl _ _) _).drew hb)).2.1 (fun (F : World) => mend (op := 12) W1 (bl_trans (bl_al (Below.refl _ _) _).drew hb) u aU fU F)
  obtain ⟨p0, p1, p2, p3, p4, p5, p6⟩ := cells7 (mbox (W := W) (op := 12) (so := so) (nm := nm) (ng := ng) (An := An) (Bn := Bn) (Cn := Cn) (n1 := n1) (n2 := n2) (n3 := n3) (ka := ka) (kb := kb) (ke := ke) _ (.refl _ _)).1
  have g0 := cell_next hb0 hg
  have hz1 : Below ((W.alloc (.cells #[.int .i64 12, .string nm, .bool ng, .slice An n1 ka, .slice Bn n2 kb, .slice Cn n3 ke, .int .i64 so] 115)).alloc (.cells #[.int .i64 0, .bool false, .bool false, .slice none 0 0, .slice none 0 0, .int .i64 0] 30)).heap.size ((W.alloc (.cells #[.int .i64 12, .string nm, .bool ng, .slice An n1 ka, .slice Bn n2 kb, .slice Cn n3 ke, .int .i64 so] 115)).alloc (.cells #[.int .i64 0, .bool false, .bool false, .slice none 0 0, .slice none 0 0, .int .i64 0] 30)) (((W.alloc (.cells #[.int .i64 12, .string nm, .bool ng, .slice An n1 ka, .slice Bn n2 kb, .slice Cn n3 ke, .int .i64 so] 115)).alloc (.cells #[.int .i64 0, .bool false, .bool false, .slice none 0 0, .slice none 0 0, .int .i64 0] 30)).alloc (.cells #[.string ⟨#[]⟩, .slice none 0 0, .int .i64 0, .bool false, .bool false, .slice none 0 0, .slice none 0 0, .int .i64 0] 37)) := bl_al (.refl _ _) _
  have g1 := cell_next hz1 g0
  have y0 := cell_next hz1 p0
  have y1 := cell_next hz1 p1
  unfold Tr.v Vl.v at *
  replace hA := hide hA; replace hst := hide hst
  clear hm hs ht aT fT hC fa na hu fU hb0 hbd hb1 hbt hg hz1
  generalize av.length = an at *
  generalize t.l.length = tn at *
  generalize t.e.p.xs.length = i1 at *
  generalize t.e.p.ys.length = i2 at *
  generalize u.p.xs.length = k1 at *
  generalize u.p.ys.length = k2 at *
  go_enter Tryz.func84, Tryz.ntmps84
  go_wp2_with fail
  go_region
  all_goals
    go_wp2_with (go_at_call 38; (with_reducible refine hA.out.mono ?_); rintro e w1 ⟨rfl, aU, hb⟩; obtain ⟨hz, he⟩ := hst.out w1 hb aU; obtain ⟨z0, z1, z2, z3, z4, z5⟩ : C6 (W.heap.size + 1) _ _ _ _ _ _ w1 := C6.of hz; obtain ⟨f0, f1, f2, f3, f4, f5⟩ := free6 hz; replace he := hide he; clear hz hb aU)
    obtain ⟨F, hF⟩ : ∃ F, F = set6 w1 (W.heap.size + 1) (.int .i64 u.so) (.bool u.bo) (.bool u.p.s) (.slice u.p.A k1 u.p.a) (.slice u.p.B k2 u.p.b) (.int .i64 u.el) := ⟨_, rfl⟩
    clear z0 z1 z2 z3 z4 z5
    obtain ⟨⟨z0, z1, z2, z3, z4, z5⟩, e1⟩ := he.out F hF
    unfold set6 at hF
    rw [← hF]
    exact bodyPost_ret (v := .tuple #[.agg #[.int .i64 u.so, .bool u.bo, .bool u.p.s, .slice u.p.A k1 u.p.a, .slice u.p.B k2 u.p.b, .int .i64 u.el], .int .i64 0]) (by simp [results, Tryz.results84, go_sem, z0, z1, z2, z3, z4, z5]) rfl e1
theorem made_none (hg : W.cell? ⟨g, 1, none⟩ = some (.map (some tm))) (hm : Tm W tm N tbs) (hs : nm.size ≤ maxLen) (ht : findT tbs nm.data.toList = none) (C : Option Addr) (n c : Nat) :
    Calls Tryz.prog 84 #[.pointer (some ⟨g, 0, none⟩), .agg #[.int .i64 12, .string nm, .bool ng, .slice An n1 ka, .slice Bn n2 kb, .slice Cn n3 ke, .int .i64 so], .slice C n c] W fun e w' => e = .returned (.tuple #[zVl.v, .int .i64 5]) ∧ Below W.heap.size W w' := by
  have hb0 : Below W.heap.size W ((W.alloc (.cells #[.int .i64 12, .string nm, .bool ng, .slice An n1 ka, .slice Bn n2 kb, .slice Cn n3 ke, .int .i64 so] 115)).alloc (.cells #[.int .i64 0, .bool false, .bool false, .slice none 0 0, .slice none 0 0, .int .i64 0] 30)) := bl_al (bl_al (.refl _ _) _) _
  have hbd : Below W.heap.size W ((W.alloc (.cells #[.int .i64 12, .string nm, .bool ng, .slice An n1 ka, .slice Bn n2 kb, .slice Cn n3 ke, .int .i64 so] 115)).alloc (.cells #[.int .i64 0, .bool false, .bool false, .slice none 0 0, .slice none 0 0, .int .i64 0] 30)).drew := hb0.drew
  have hb1 : Below W.heap.size W (((W.alloc (.cells #[.int .i64 12, .string nm, .bool ng, .slice An n1 ka, .slice Bn n2 kb, .slice Cn n3 ke, .int .i64 so] 115)).alloc (.cells #[.int .i64 0, .bool false, .bool false, .slice none 0 0, .slice none 0 0, .int .i64 0] 30)).alloc (.cells #[.string ⟨#[]⟩, .slice none 0 0, .int .i64 0, .bool false, .bool false, .slice none 0 0, .slice none 0 0, .int .i64 0] 37)).drew := (bl_al hb0 _).drew
  have hk0 := (hm.next hbd).look nm hs none ht
  have hk1 := (hm.next hb1).look nm hs none ht
  rw [show ((none : Option Tr).getD zTr) = zTr from rfl, show (none : Option Tr).isSome = false from rfl] at hk0 hk1
  have hz1 : Below ((W.alloc (.cells #[.int .i64 12, .string nm, .bool ng, .slice An n1 ka, .slice Bn n2 kb, .slice Cn n3 ke, .int .i64 so] 115)).alloc (.cells #[.int .i64 0, .bool false, .bool false, .slice none 0 0, .slice none 0 0, .int .i64 0] 30)).heap.size ((W.alloc (.cells #[.int .i64 12, .string nm, .bool ng, .slice An n1 ka, .slice Bn n2 kb, .slice Cn n3 ke, .int .i64 so] 115)).alloc (.cells #[.int .i64 0, .bool false, .bool false, .slice none 0 0, .slice none 0 0, .int .i64 0] 30)) (((W.alloc (.cells #[.int .i64 12, .string nm, .bool ng, .slice An n1 ka, .slice Bn n2 kb, .slice Cn n3 ke, .int .i64 so] 115)).alloc (.cells #[.int .i64 0, .bool false, .bool false, .slice none 0 0, .slice none 0 0, .int .i64 0] 30)).alloc (.cells #[.string ⟨#[]⟩, .slice none 0 0, .int .i64 0, .bool false, .bool false, .slice none 0 0, .slice none 0 0, .int .i64 0] 37)) := bl_al (.refl _ _) _
  have hst := fun (W1 : World) (hb : Below (((W.alloc (.cells #[.int .i64 12, .string nm, .bool ng, .slice An n1 ka, .slice Bn n2 kb, .slice Cn n3 ke, .int .i64 so] 115)).alloc (.cells #[.int .i64 0, .bool false, .bool false, .slice none 0 0, .slice none 0 0, .int .i64 0] 30)).alloc (.cells #[.string ⟨#[]⟩, .slice none 0 0, .int .i64 0, .bool false, .bool false, .slice none 0 0, .slice none 0 0, .int .i64 0] 37)).drew.heap.size (((W.alloc (.cells #[.int .i64 12, .string nm, .bool ng, .slice An n1 ka, .slice Bn n2 kb, .slice Cn n3 ke, .int .i64 so] 115)).alloc (.cells #[.int .i64 0, .bool false, .bool false, .slice none 0 0, .slice none 0 0, .int .i64 0] 30)).alloc (.cells #[.string ⟨#[]⟩, .slice none 0 0, .int .i64 0, .bool false, .bool false, .slice none 0 0, .slice none 0 0, .int .i64 0] 37)).drew W1) => And.intro (mbox (op := 12) W1 (bl_trans hz1.drew hb)).2.1 (fun (F : World) => mend (op := 12) W1 (bl_trans hz1.drew hb) zVl (zVl_at _) zVl_few F)
  obtain ⟨hz, he⟩ := hst _ (.refl _ _)
  obtain ⟨p0, p1, p2, p3, p4, p5, p6⟩ := cells7 (mbox (W := W) (op := 12) (so := so) (nm := nm) (ng := ng) (An := An) (Bn := Bn) (Cn := Cn) (n1 := n1) (n2 := n2) (n3 := n3) (ka := ka) (kb := kb) (ke := ke) _ (.refl _ _)).1
  obtain ⟨z0, z1, z2, z3, z4, z5⟩ : C6 (W.heap.size + 1) _ _ _ _ _ _ (((W.alloc (.cells #[.int .i64 12, .string nm, .bool ng, .slice An n1 ka, .slice Bn n2 kb, .slice Cn n3 ke, .int .i64 so] 115)).alloc (.cells #[.int .i64 0, .bool false, .bool false, .slice none 0 0, .slice none 0 0, .int .i64 0] 30)).alloc (.cells #[.string ⟨#[]⟩, .slice none 0 0, .int .i64 0, .bool false, .bool false, .slice none 0 0, .slice none 0 0, .int .i64 0] 37)).drew := C6.of hz
  obtain ⟨f0, f1, f2, f3, f4, f5⟩ := free6 hz
  have g0 := cell_next hb0 hg
  have g1 := cell_next hz1 g0
  have y0 := cell_next hz1 p0
  have y1 := cell_next hz1 p1
  have hfe : ∀ F, F = set6 (((W.alloc (.cells #[.int .i64 12, .string nm, .bool ng, .slice An n1 ka, .slice Bn n2 kb, .slice Cn n3 ke, .int .i64 so] 115)).alloc (.cells #[.int .i64 0, .bool false, .bool false, .slice none 0 0, .slice none 0 0, .int .i64 0] 30)).alloc (.cells #[.string ⟨#[]⟩, .slice none 0 0, .int .i64 0, .bool false, .bool false, .slice none 0 0, .slice none 0 0, .int .i64 0] 37)).drew (W.heap.size + 1) (.int .i64 0) (.bool false) (.bool false) (.slice none 0 0) (.slice none 0 0) (.int .i64 0) → C6 (W.heap.size + 1) (.int .i64 0) (.bool false) (.bool false) (.slice none 0 0) (.slice none 0 0) (.int .i64 0) F ∧ Below W.heap.size W F := fun F hF => by
    obtain ⟨h1, u, _, _, _, _, h2⟩ := he F hF
    exact ⟨h1, h2⟩
  replace hfe := hide hfe
  clear hm hs ht hb0 hbd hb1 hg hz1 hst he hz
  unfold Tr.v zTr zVl Vl.v at *
  dsimp only at hk0 hk1
  go_enter Tryz.func84, Tryz.ntmps84
  go_wp2_with fail
  go_region
  all_goals
    generalize (((W.alloc (.cells #[.int .i64 12, .string nm, .bool ng, .slice An n1 ka, .slice Bn n2 kb, .slice Cn n3 ke, .int .i64 so] 115)).alloc (.cells #[.int .i64 0, .bool false, .bool false, .slice none 0 0, .slice none 0 0, .int .i64 0] 30)).alloc (.cells #[.string ⟨#[]⟩, .slice none 0 0, .int .i64 0, .bool false, .bool false, .slice none 0 0, .slice none 0 0, .int .i64 0] 37)).drew = W9 at *
    go_wp2_with fail
    obtain ⟨F, hF⟩ : ∃ F, F = set6 W9 (W.heap.size + 1) (.int .i64 0) (.bool false) (.bool false) (.slice none 0 0) (.slice none 0 0) (.int .i64 0) := ⟨_, rfl⟩
    clear z0 z1 z2 z3 z4 z5
    obtain ⟨⟨z0, z1, z2, z3, z4, z5⟩, e1⟩ := hfe.out F hF
    unfold set6 at hF
    rw [← hF]
    exact bodyPost_ret (v := .tuple #[.agg #[.int .i64 0, .bool false, .bool false, .slice none 0 0, .slice none 0 0, .int .i64 0], .int .i64 5]) (by simp [results, Tryz.results84, go_sem, z0, z1, z2, z3, z4, z5]) rfl ⟨rfl, e1⟩
end
end
end Nt
end Go.Proofs.YthabfakbdfaciaaGreat
