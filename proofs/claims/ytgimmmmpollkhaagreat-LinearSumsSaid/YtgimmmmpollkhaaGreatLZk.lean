/-
  The law LinearSums.
-/
import Derived.Test.YtgimmmmpollkhaaGreatLZh
import Derived.Test.YtgimmmmpollkhaaGreatLZa
namespace Go.Proofs.YtgimmmmpollkhaaGreat
open Go.ChangeShapes Go.RowKit
namespace Nt
set_option maxRecDepth 100000
set_option linter.unusedSimpArgs false
set_option linter.unusedVariables false

/-- What a number's rows hold. -/
def cnq (q : Rat) : Bool × List Nat × List Nat := (qs q, digs (qn q), digs (qd q))
theorem cnq_of {p : Pt} (h : p.Ok) : p.cn = cnq p.q := by
  unfold Pt.cn cnq
  rw [h.s.symm, h.x.symm, h.y.symm]
theorem raw_of {l : List Pt} (h : ∀ p ∈ l, p.Ok) : l.map Pt.raw = (l.map Pt.qt).map fun x => (cnq x.1, x.2) := by
  rw [List.map_map]
  exact List.map_congr_left fun p hp => by
    show (p.cn, p.t) = (cnq p.q, p.t)
    rw [cnq_of (h p hp)]
/-- A sum and an error, by what they hold. -/
def RPo (w : World) (M : List ((Bool × List Nat × List Nat) × Int)) (N : Bool × List Nat × List Nat) (z : Int) (e : Ending) (w' : World) : Prop := ∃ (A : Option Addr) (k : Nat) (l : List Pt) (c : Pt), e = .returned (.tuple #[.agg #[.slice A l.length k, .bool c.s, .slice c.A c.xs.length c.a, .slice c.B c.ys.length c.b], .int .i64 z]) ∧ l.map Pt.raw = M ∧ c.cn = N ∧ Pl w' A l ∧ c.At w' ∧ (∀ p ∈ l, p.Few) ∧ c.Few ∧ l.length ≤ 1000000 ∧ Below w.heap.size w w'
/-- A number and an error, by what they hold. -/
def RRo (w : World) (N : Bool × List Nat × List Nat) (z : Int) (e : Ending) (w' : World) : Prop := ∃ r : Pt, e = .returned (.tuple #[.agg #[.bool r.s, .slice r.A r.xs.length r.a, .slice r.B r.ys.length r.b], .int .i64 z]) ∧ r.cn = N ∧ r.Few ∧ r.At w' ∧ Below w.heap.size w w'
def p0 : Pt := ⟨false, none, 0, [], none, 0, [], 0⟩
theorem p0_few : p0.Few := ⟨fun x h => (by cases h), fun x h => (by cases h), Nat.zero_le _, Nat.zero_le _⟩
theorem p0_at (W : World) : p0.At W := ⟨.inl rfl, .inl rfl⟩
theorem PNo.rpo {k : Nat} {w w' : World} {e : Ending} (h : PNo k w e w') : RPo w [] (false, [], []) k e w' :=
  ⟨none, 0, [], p0, h.1, rfl, rfl, .inl rfl, p0_at _, fun p hp => (by cases hp), p0_few, Nat.zero_le _, h.2⟩
theorem PR.rpo {w w' : World} {L : List (Rat × Int)} {q : Rat} {e : Ending} (h : PR w L q e w') (hn : L.length ≤ 1000000) : RPo w (L.map fun x => (cnq x.1, x.2)) (cnq q) 0 e w' := by
  obtain ⟨A, k, l, c, rfl, m, v, p, t, o, z, hb, _, _⟩ := h
  refine ⟨A, k, l, c, rfl, ?_, ?_, p, t, fun x hx => (o x hx).few, z.few, ?_, hb⟩
  · rw [raw_of o, m]
  · rw [cnq_of z, v]
  · rw [← m, List.length_map] at hn; exact hn
theorem ScO.rpo {w w' : World} {b : Bool} {L : List (Rat × Int)} {q : Rat} {e : Ending} (h : ScO w b L q e w') (hb : b = true) (hn : L.length ≤ 1000000) : RPo w (L.map fun x => (cnq x.1, x.2)) (cnq q) 0 e w' := by
  rcases h with h | h
  · exact h.2.rpo hn
  · rw [hb] at h; cases h.1
theorem RNo.rro {k : Nat} {w w' : World} {e : Ending} (h : RNo k w e w') : RRo w (false, [], []) k e w' := ⟨p0, h.1, rfl, p0_few, p0_at _, h.2⟩
theorem vaR_rro (o : Tells) (L : List (Rat × Int)) (q : Rat) : ∃ N z, ∀ w e w', VaR w o L q e w' → RRo w N z e w' := by
  by_cases h : L.all (fun x => oOk o x.2) = true
  · cases hv : valF q (valL o L) with
    | some v =>
      refine ⟨cnq v, 0, fun w e w' H => ?_⟩
      rcases H with H | H
      · have := H.2
        rw [hv] at this
        obtain ⟨r, rfl, e1, _, e2, e3, hb⟩ := this
        exact ⟨r, rfl, by rw [cnq_of e2, e1], e2.few, e3, hb⟩
      · rw [h] at H; cases H.1
    | none =>
      refine ⟨(false, [], []), (4 : Nat), fun w e w' H => ?_⟩
      rcases H with H | H
      · have := H.2
        rw [hv] at this
        exact RNo.rro this
      · rw [h] at H; cases H.1
  · refine ⟨(false, [], []), (1 : Nat), fun w e w' H => ?_⟩
    rcases H with H | H
    · exact absurd H.1 h
    · exact RNo.rro H.2
theorem bnd_m1div {q : Rat} (h : bnd 8 q) (h0 : q ≠ 0) : bnd 8 (-1 / q) := by
  rw [m1_div]
  have e1 : qn (-(q⁻¹)) = qn q⁻¹ := Int.natAbs_neg _
  have e2 : qd (-(q⁻¹)) = qd q⁻¹ := rfl
  exact ⟨by rw [e1, qn_inv h0]; exact h.2, by rw [e2, qd_inv h0]; exact h.1⟩
theorem look_bnd' {lb : List Pt} (h : ∀ p ∈ lb, p.ok = true → bnd 8 p.q) (t : Int) (ho : oOk (lookT lb) t = true) : bnd 8 (oq (lookT lb) t) := by
  induction lb with
  | nil =>
    have e : oq (lookT []) t = 0 := by
      show qmk false (val []) (val [1]) = 0
      decide +kernel
    rw [e]
    exact ⟨by decide +kernel, by decide +kernel⟩
  | cons p l ih =>
    unfold oOk lookT at ho
    unfold oq lookT
    by_cases e : p.t = t
    · rw [if_pos e] at ho ⊢; exact h p (by simp) ho
    · rw [if_neg e] at ho ⊢; exact ih (fun q hq => h q (by simp [hq])) ho
/-- A sum at hand of which no more is known than that it is small. -/
structure Pg (w : World) (A : Option Addr) (l : List Pt) (k : Nat) (c : Pt) : Prop where
  hl : Pl w A l
  hc : c.At w
  fl : ∀ p ∈ l, p.Few
  fc : c.Few
  f8 : ∀ p ∈ l, p.few8 = true
  c8 : c.few8 = true
  n : l.length ≤ 10
  nk : l.length ≤ k
  km : k ≤ maxLen
theorem Pg.next {w W : World} {A : Option Addr} {l : List Pt} {k : Nat} {c : Pt} (h : Pg w A l k c) (b : Below w.heap.size w W) : Pg W A l k c := ⟨h.hl.next b, h.hc.next b, h.fl, h.fc, h.f8, h.c8, h.n, h.nk, h.km⟩
theorem Pg.good {w : World} {A : Option Addr} {l : List Pt} {k : Nat} {c : Pt} (h : Pg w A l k c) (v : (pvB (-1) l && c.ok) = true) : pvB (-1) l = true ∧ (∀ p ∈ l, p.Ok) ∧ c.Ok ∧ rvB (-1) (l.map Pt.qt) ∧ small 8 (l.map Pt.qt) ∧ bnd 8 c.q := by
  rw [Bool.and_eq_true] at v
  have ol := pvB_ok v.1 h.fl
  have oc := ok_of h.fc v.2
  exact ⟨v.1, ol, oc, (pvB_rvB ol (-1)).1 v.1, small_o ol h.f8, bnd_o oc h.c8⟩
section
variable {w : World} {A B : Option Addr} {l m : List Pt} {kc kd : Nat} {c d kk : Pt}
theorem add_pair (hp : Pg w A l kc c) (hq : Pg w B m kd d) : ∃ M N z, (∀ W, Below w.heap.size w W → Calls Tryz.prog 12 #[polyV A l.length kc c, polyV B m.length kd d] W (RPo W M N z)) ∧ (∀ W, Below w.heap.size w W → Calls Tryz.prog 13 #[polyV A l.length kc c, polyV B m.length kd d] W (RPo W M N z)) := by
  have n1 := hp.n
  have n2 := hq.n
  by_cases h : (pvB (-1) l && c.ok) = true ∧ (pvB (-1) m && d.ok) = true
  · obtain ⟨v, ol, oc, rl, sl, bc⟩ := hp.good h.1
    obtain ⟨v', ol', oc', rl', sl', bc'⟩ := hq.good h.2
    have f1 : mfB (l.map Pt.qt) (m.map Pt.qt) = true := mfB_small 8 8 (by decide) _ _ _ (Nat.le_refl _) sl sl'
    have f2 : fitB (c.q + d.q) = true := fitB_bnd (bnd_add bc bc') (by decide)
    have hn : (mrg (l.map Pt.qt) (m.map Pt.qt)).length ≤ 1000000 := by
      have := mrg_len _ (l.map Pt.qt) (m.map Pt.qt) (Nat.le_refl _)
      rw [List.length_map, List.length_map] at this
      omega
    exact ⟨_, _, _, fun W b => (lsum_ok A B l m kc kd c d W (hp.hl.next b) (hq.hl.next b) ol ol' v v' (hp.hc.next b) (hq.hc.next b) oc oc' (by omega) (by omega) hp.nk hq.nk hp.km hq.km).mono fun e w' H => H.rpo (by rw [f1, f2]; rfl) hn,
      fun W b => (rsum_ok A B l m kc kd c d W (hp.hl.next b) (hq.hl.next b) ol ol' v v' (hp.hc.next b) (hq.hc.next b) oc oc' (by omega) (by omega) f1 f2).mono fun e w' H => H.rpo hn⟩
  · have h' : (pvB (-1) l && c.ok) = false ∨ (pvB (-1) m && d.ok) = false := by
      cases h1 : (pvB (-1) l && c.ok)
      · exact .inl rfl
      · exact .inr (Bool.eq_false_iff.2 fun h2 => h ⟨h1, h2⟩)
    exact ⟨_, _, _, fun W b => (ladd_no A B l m kc kd c d W (hp.hl.next b) (hq.hl.next b) hp.fl hq.fl (hp.hc.next b) (hq.hc.next b) hp.fc hq.fc (by omega) (by omega) h').mono fun e w' H => H.rpo,
      fun W b => (rsum_no A B l m kc kd c d W (hp.hl.next b) (hq.hl.next b) hp.fl hq.fl (hp.hc.next b) (hq.hc.next b) hp.fc hq.fc (by omega) (by omega) h').mono fun e w' H => H.rpo⟩
theorem scale_pair (hp : Pg w A l kc c) (hk : kk.At w) (fk : kk.Few) (k8 : kk.few8 = true) : ∃ M N z, (∀ W, Below w.heap.size w W → Calls Tryz.prog 14 #[polyV A l.length kc c, rv kk] W (RPo W M N z)) ∧ (∀ W, Below w.heap.size w W → Calls Tryz.prog 15 #[polyV A l.length kc c, rv kk] W (RPo W M N z)) := by
  have n1 := hp.n
  by_cases h : (pvB (-1) l && c.ok) = true ∧ kk.ok = true
  · obtain ⟨v, ol, oc, rl, sl, bc⟩ := hp.good h.1
    have ok := ok_of fk h.2
    have bk := bnd_o ok k8
    have f1 : scB kk.q l c = true := by
      unfold scB
      rw [Bool.and_eq_true, List.all_eq_true]
      exact ⟨fun p hp => fitB_bnd (bnd_mul (sl p.qt (List.mem_map_of_mem hp)) bk) (by decide), fitB_bnd (bnd_mul bc bk) (by decide)⟩
    have hn : (scaleL kk.q l).length ≤ 1000000 := by
      unfold scaleL
      split
      · exact Nat.zero_le _
      · unfold scL; rw [List.length_map]; omega
    exact ⟨_, _, _, fun W b => (lscale_ok A l kc c kk W (hp.hl.next b) ol v (hp.hc.next b) oc (hk.next b) ok (by omega)).mono fun e w' H => H.rpo f1 hn,
      fun W b => (rscale_ok A l kc c kk W (hp.hl.next b) ol v (hp.hc.next b) oc (hk.next b) ok (by omega) f1).mono fun e w' H => H.rpo hn⟩
  · have h' : (pvB (-1) l && c.ok) = false ∨ kk.ok = false := by
      cases h1 : (pvB (-1) l && c.ok)
      · exact .inl rfl
      · exact .inr (Bool.eq_false_iff.2 fun h2 => h ⟨h1, h2⟩)
    exact ⟨_, _, _, fun W b => (lscale_no A l kc c kk W (hp.hl.next b) hp.fl (hp.hc.next b) hp.fc (hk.next b) fk (by omega) h').mono fun e w' H => H.rpo,
      fun W b => (rscale_no A l kc c kk W (hp.hl.next b) hp.fl (hp.hc.next b) hp.fc (hk.next b) fk (by omega) h').mono fun e w' H => H.rpo⟩
theorem solve_pair (hp : Pg w A l kc c) (id : Int) : ∃ M N z, (∀ W, Below w.heap.size w W → Calls Tryz.prog 16 #[polyV A l.length kc c, .int .i64 id] W (RPo W M N z)) ∧ (∀ W, Below w.heap.size w W → Calls Tryz.prog 17 #[polyV A l.length kc c, .int .i64 id] W (RPo W M N z)) := by
  have n1 := hp.n
  by_cases h : (pvB (-1) l && c.ok) = true ∧ ∃ j, ∃ hj : j < l.length, l[j].t = id
  · obtain ⟨hv, j, hj, rfl⟩ := h
    obtain ⟨v, ol, oc, rl, sl, bc⟩ := hp.good hv
    have h0 : l[j].q ≠ 0 := rvB_ne rl (x := l[j].qt) (List.mem_map_of_mem (List.getElem_mem hj))
    have bk := bnd_m1div (sl l[j].qt (List.mem_map_of_mem (List.getElem_mem hj))) h0
    have f1 : scB (-1 / l[j].q) (l.take j ++ l.drop (j + 1)) c = true := by
      unfold scB
      rw [Bool.and_eq_true, List.all_eq_true]
      refine ⟨fun p hp => fitB_bnd (bnd_mul (sl p.qt (List.mem_map_of_mem ?_)) bk) (by decide), fitB_bnd (bnd_mul bc bk) (by decide)⟩
      rcases List.mem_append.1 hp with h | h
      · exact List.mem_of_mem_take h
      · exact List.mem_of_mem_drop h
    have e1 : scaleL (-1 / l[j].q) (l.take j ++ l.drop (j + 1)) = scL (-1 / l[j].q) (l.take j ++ l.drop (j + 1)) := if_neg (m1_div_ne h0)
    have hn : (scL (-1 / l[j].q) (l.take j ++ l.drop (j + 1))).length ≤ 1000000 := by
      unfold scL; rw [List.length_map, List.length_append, List.length_take, List.length_drop]; omega
    exact ⟨_, _, _, fun W b => (lsolve_ok A l kc c W (hp.hl.next b) (hp.hc.next b) ol oc v (by omega) hp.nk hp.km j hj).mono fun e w' H => H.rpo f1 hn,
      fun W b => (rsolve_ok A l kc c W (hp.hl.next b) (hp.hc.next b) ol oc v (by omega) j hj f1).mono fun e w' H => PR.rpo (by rw [e1] at H; exact H) hn⟩
  · have h' : (pvB (-1) l && c.ok) = false ∨ ∀ p ∈ l, p.t ≠ id := by
      cases h1 : (pvB (-1) l && c.ok)
      · exact .inl rfl
      · exact .inr fun p hp e => by
          obtain ⟨j, hj, rfl⟩ := List.getElem_of_mem hp
          exact h ⟨h1, j, hj, e⟩
    exact ⟨_, _, _, fun W b => (lsolve_no A l kc c id W (hp.hl.next b) (hp.hc.next b) hp.fl hp.fc (by omega) h').mono fun e w' H => H.rpo,
      fun W b => (rsolve_no A l kc c id W (hp.hl.next b) (hp.hc.next b) hp.fl hp.fc (by omega) h').mono fun e w' H => H.rpo⟩
theorem value_pair {lb : List Pt} {kb : Nat} (hp : Pg w A l kc c) (hbl : Bl w B lb) (fb : ∀ p ∈ lb, p.Few) (b8 : ∀ p ∈ lb, p.few8 = true) (hn : lb.length ≤ 12) (g : Nat) : ∃ N z, (∀ W, Below w.heap.size w W → W.cell? ⟨g, 0, none⟩ = some (.slice B lb.length kb) → Calls Tryz.prog 18 #[polyV A l.length kc c, .func (.func 19) #[] #[.pointer (some ⟨g, 0, none⟩)]] W (RRo W N z)) ∧ (∀ W R cr, Below w.heap.size w W → Bl W R lb → Calls Tryz.prog 22 #[polyV A l.length kc c, .slice R lb.length cr] W (RRo W N z)) := by
  have n1 := hp.n
  by_cases h : (pvB (-1) l && c.ok) = true
  · obtain ⟨v, ol, oc, rl, sl, bc⟩ := hp.good h
    obtain ⟨N, z, H⟩ := vaR_rro (lookT lb) (l.map Pt.qt) c.q
    refine ⟨N, z, fun W b hg => (value_ok A l kc c _ _ (lookT lb) W (hp.hl.next b) (hp.hc.next b) ol oc v (by omega) fun p _ W' b' => ?_).mono (H W), fun W R cr b hR => (rvalue_ok A R l lb kc cr c W (hp.hl.next b) (hp.hc.next b) ol oc v (by omega) hR fb (by omega) fun p hp ho => ?_).mono (H W)⟩
    · exact told_any _ _ _ _ _ entersS8 fun W2 b2 => tellS8_any B lb kb g p.t W2 (hbl.next (bl_trans b (bl_trans b' b2))) fb (by omega) (cell_next (bl_trans b' b2) hg)
    · exact fitB_bnd (bnd_mul (sl p.qt (List.mem_map_of_mem hp)) (look_bnd' (fun q hq hk => bnd_o (ok_of (fb q hq) hk) (b8 q hq)) p.t ho)) (by decide)
  · have h' : (pvB (-1) l && c.ok) = false := Bool.eq_false_iff.2 h
    exact ⟨_, _, fun W b hg => (value_no A l kc c _ _ W (hp.hl.next b) (hp.hc.next b) hp.fl hp.fc (by omega) h').mono fun e w' H => RNo.rro H,
      fun W R cr b hR => (rvalue_no A R l lb kc cr c W (hp.hl.next b) (hp.hc.next b) hp.fl hp.fc (by omega) h').mono fun e w' H => RNo.rro H⟩
end
/-- A sum in a box, by what it holds. -/
structure Pw (M : List ((Bool × List Nat × List Nat) × Int)) (N : Bool × List Nat × List Nat) (g : Nat) (A : Option Addr) (k : Nat) (l : List Pt) (c : Pt) (W : World) : Prop where
  hM : l.map Pt.raw = M
  hN : c.cn = N
  hl : Pl W A l
  hc : c.At W
  fl : ∀ p ∈ l, p.Few
  fc : c.Few
  len : l.length ≤ 1000000
  x : C4 g (.slice A l.length k) (.bool c.s) (.slice c.A c.xs.length c.a) (.slice c.B c.ys.length c.b) W
section
variable {M : List ((Bool × List Nat × List Nat) × Int)} {N : Bool × List Nat × List Nat} {g g' : Nat} {A B : Option Addr} {k kd : Nat} {l m : List Pt} {c d : Pt} {W W' : World}
theorem Pw.next (h : Pw M N g A k l c W) (b : Below W.heap.size W W') : Pw M N g A k l c W' := ⟨h.hM, h.hN, h.hl.next b, h.hc.next b, h.fl, h.fc, h.len, h.x.next b⟩
theorem pw_new (k : Nat) (hM : l.map Pt.raw = M) (hN : c.cn = N) (hl : Pl W A l) (hc : c.At W) (fl : ∀ p ∈ l, p.Few) (fc : c.Few) (len : l.length ≤ 1000000) : Pw M N W.heap.size A k l c (W.alloc (.cells #[.slice A l.length k, .bool c.s, .slice c.A c.xs.length c.a, .slice c.B c.ys.length c.b] 27)) :=
  ⟨hM, hN, hl.next (bl_al (.refl _ _) _), hc.next (bl_al (.refl _ _) _), fl, fc, len, C4.of (Bk.new _ _ W)⟩
theorem pw_same (h : Pw M N g A k l c W) (h' : Pw M N g' B kd m d W) : Calls Tryz.prog 23 #[.agg #[.slice A l.length k, .bool c.s, .slice c.A c.xs.length c.a, .slice c.B c.ys.length c.b], .agg #[.slice B m.length kd, .bool d.s, .slice d.A d.xs.length d.a, .slice d.B d.ys.length d.b]] W fun e w' => e = .returned (.bool true) ∧ Below W.heap.size W w' :=
  rsamep_r A B k kd l m c d W h.hl h'.hl h.fl h'.fl h.hc h'.hc h.fc h'.fc h.len h'.len true (by rw [h.hM, h'.hM, h.hN, h'.hN]; simp)
end
/-- A number in a box, by what it holds. -/
structure Nrx (N : Bool × List Nat × List Nat) (g : Nat) (r : Pt) (W : World) : Prop where
  hN : r.cn = N
  few : r.Few
  at_ : r.At W
  x : C3 g (.bool r.s) (.slice r.A r.xs.length r.a) (.slice r.B r.ys.length r.b) W
section
variable {N : Bool × List Nat × List Nat} {g g' : Nat} {r s : Pt} {W W' : World}
theorem Nrx.next (h : Nrx N g r W) (b : Below W.heap.size W W') : Nrx N g r W' := ⟨h.hN, h.few, h.at_.next b, h.x.next b⟩
theorem nw_new (hN : r.cn = N) (f : r.Few) (a : r.At W) : Nrx N W.heap.size r (W.alloc (.cells #[.bool r.s, .slice r.A r.xs.length r.a, .slice r.B r.ys.length r.b] 25)) := ⟨hN, f, a.next (bl_al (.refl _ _) _), C3.of (Bk.new _ _ W)⟩
theorem nw_same (h : Nrx N g r W) (h' : Nrx N g' s W) : Calls Tryz.prog 24 #[.agg #[.bool r.s, .slice r.A r.xs.length r.a, .slice r.B r.ys.length r.b], .agg #[.bool s.s, .slice s.A s.xs.length s.a, .slice s.B s.ys.length s.b]] W fun e w' => e = .returned (.bool true) ∧ Below W.heap.size W w' :=
  rsame_r h.few h'.few W h.at_ h'.at_ true (by rw [h.hN, h'.hN]; simp)
end
def W4 (w : World) (c d kk : Pt) (A B C : Option Addr) (n kc m kd b kb : Nat) : World := (((w.alloc (.cells #[.slice A n kc, .bool c.s, .slice c.A c.xs.length c.a, .slice c.B c.ys.length c.b] 27)).alloc (.cells #[.slice B m kd, .bool d.s, .slice d.A d.xs.length d.a, .slice d.B d.ys.length d.b] 27)).alloc (.cells #[.bool kk.s, .slice kk.A kk.xs.length kk.a, .slice kk.B kk.ys.length kk.b] 25)).alloc (.cells #[.slice C b kb] 28)
/-- The boxes of two sums, a number and a row of bindings. -/
def B4 (w : World) (c d kk : Pt) (A B C : Option Addr) (n kc m kd b kb : Nat) (W : World) : Prop := C4 w.heap.size (.slice A n kc) (.bool c.s) (.slice c.A c.xs.length c.a) (.slice c.B c.ys.length c.b) W ∧ C4 (w.heap.size + 1) (.slice B m kd) (.bool d.s) (.slice d.A d.xs.length d.a) (.slice d.B d.ys.length d.b) W ∧ C3 (w.heap.size + 1 + 1) (.bool kk.s) (.slice kk.A kk.xs.length kk.a) (.slice kk.B kk.ys.length kk.b) W ∧ W.cell? ⟨w.heap.size + 1 + 1 + 1, 0, none⟩ = some (.slice C b kb)
theorem B4.start (w : World) (c d kk : Pt) (A B C : Option Addr) (n kc m kd b kb : Nat) : B4 w c d kk A B C n kc m kd b kb (W4 w c d kk A B C n kc m kd b kb) ∧ Below w.heap.size w (W4 w c d kk A B C n kc m kd b kb) := by
  have h1 : Bk w.heap.size #[.slice A n kc, .bool c.s, .slice c.A c.xs.length c.a, .slice c.B c.ys.length c.b] 27 (W4 w c d kk A B C n kc m kd b kb) := (((Bk.new _ _ w).al _).al _).al _
  have h2 : Bk (w.heap.size + 1) #[.slice B m kd, .bool d.s, .slice d.A d.xs.length d.a, .slice d.B d.ys.length d.b] 27 (W4 w c d kk A B C n kc m kd b kb) := ((Bk.new1 _ _ w _).al _).al _
  have h3 : Bk (w.heap.size + 1 + 1) #[.bool kk.s, .slice kk.A kk.xs.length kk.a, .slice kk.B kk.ys.length kk.b] 25 (W4 w c d kk A B C n kc m kd b kb) := by
    have := (Bk.new1 #[.bool kk.s, .slice kk.A kk.xs.length kk.a, .slice kk.B kk.ys.length kk.b] 25 (w.alloc (.cells #[.slice A n kc, .bool c.s, .slice c.A c.xs.length c.a, .slice c.B c.ys.length c.b] 27)) (.cells #[.slice B m kd, .bool d.s, .slice d.A d.xs.length d.a, .slice d.B d.ys.length d.b] 27)).al (.cells #[.slice C b kb] 28)
    simpa [W4] using this
  have h4 : Bk (w.heap.size + 1 + 1 + 1) #[.slice C b kb] 28 (W4 w c d kk A B C n kc m kd b kb) := by
    have := Bk.new1 #[.slice C b kb] 28 ((w.alloc (.cells #[.slice A n kc, .bool c.s, .slice c.A c.xs.length c.a, .slice c.B c.ys.length c.b] 27)).alloc (.cells #[.slice B m kd, .bool d.s, .slice d.A d.xs.length d.a, .slice d.B d.ys.length d.b] 27)) (.cells #[.bool kk.s, .slice kk.A kk.xs.length kk.a, .slice kk.B kk.ys.length kk.b] 25)
    simpa [W4] using this
  exact ⟨⟨C4.of h1, C4.of h2, C3.of h3, h4.cell (j := 0) rfl⟩, bl_al (bl_al (bl_al (bl_al (.refl _ _) _) _) _) _⟩
theorem B4.next {w : World} {c d kk : Pt} {A B C : Option Addr} {n kc m kd b kb : Nat} {W W' : World} (h : B4 w c d kk A B C n kc m kd b kb W) (hb : Below W.heap.size W W') : B4 w c d kk A B C n kc m kd b kb W' := ⟨h.1.next hb, h.2.1.next hb, h.2.2.1.next hb, cell_next hb h.2.2.2⟩
theorem same_z (z : Int) : binOp .eql 3 (.int .i64 z) (.int .i64 z) = pure (.bool true) := eql_b 3 z z true (by simp)
theorem same_v (v : Bool) (W : World) : (binOp .eql 4 (.bool v) (.bool v)).run Tryz.prog W = .ok (.bool true) W := by cases v <;> kernel_rfl
theorem rat_same {r s : Pt} {W : World} (hr : r.Ok) (hs : s.Ok) (ar : r.At W) (as_ : s.At W) (e : r.q = s.q) : Calls Tryz.prog 24 #[.agg #[.bool r.s, .slice r.A r.xs.length r.a, .slice r.B r.ys.length r.b], .agg #[.bool s.s, .slice s.A s.xs.length s.a, .slice s.B s.ys.length s.b]] W fun e w' => e = .returned (.bool true) ∧ Below W.heap.size W w' :=
  rsame_r hr.few hs.few W ar as_ true (by rw [cnq_of hr, cnq_of hs, e]; simp)
theorem coef_pair {w : World} {A : Option Addr} {l : List Pt} {kc : Nat} {c : Pt} (hp : Pg w A l kc c) (id : Int) : ∃ q, (∀ W, Below w.heap.size w W → Calls Tryz.prog 27 #[polyV A l.length kc c, .int .i64 id] W (NewR q W)) ∧ (∀ W, Below w.heap.size w W → Calls Tryz.prog 28 #[polyV A l.length kc c, .int .i64 id] W (NewR q W)) := by
  have n1 := hp.n
  exact ⟨_, fun W b => lcoef_any A l kc c id W (hp.hl.next b) (hp.hc.next b) hp.fl hp.fc (by omega), fun W b => rcoef_any A l kc c id W (hp.hl.next b) (hp.hc.next b) hp.fl hp.fc (by omega)⟩
theorem valid_pair {w : World} {A : Option Addr} {l : List Pt} {kc : Nat} {c : Pt} (hp : Pg w A l kc c) : ∃ v, (∀ W, Below w.heap.size w W → Calls Tryz.prog 25 #[polyV A l.length kc c] W fun e w' => e = .returned (.bool v) ∧ Below W.heap.size W w') ∧ (∀ W, Below w.heap.size w W → Calls Tryz.prog 26 #[polyV A l.length kc c] W fun e w' => e = .returned (.bool v) ∧ Below W.heap.size W w') := by
  have n1 := hp.n
  exact ⟨_, fun W b => lvalid_any A l kc c W (hp.hl.next b) (hp.hc.next b) hp.fl hp.fc (by omega) _ rfl, fun W b => rvalidP_any A l kc c W (hp.hl.next b) (hp.hc.next b) hp.fl hp.fc (by omega) _ rfl⟩
theorem same_pair {w : World} {A B : Option Addr} {l m : List Pt} {kc kd : Nat} {c d : Pt} (hp : Pg w A l kc c) (hq : Pg w B m kd d) : ∃ v, (∀ W, Below w.heap.size w W → Calls Tryz.prog 29 #[polyV A l.length kc c, polyV B m.length kd d] W fun e w' => e = .returned (.bool v) ∧ Below W.heap.size W w') ∧ (∀ W, Below w.heap.size w W → Calls Tryz.prog 23 #[polyV A l.length kc c, polyV B m.length kd d] W fun e w' => e = .returned (.bool v) ∧ Below W.heap.size W w') := by
  have n1 := hp.n
  have n2 := hq.n
  exact ⟨_, fun W b => lsame_r A B kc kd l m c d W (hp.hl.next b) (hq.hl.next b) hp.fl hq.fl (hp.hc.next b) (hq.hc.next b) hp.fc hq.fc (by omega) (by omega) _ _ rfl rfl, fun W b => rsamep_r A B kc kd l m c d W (hp.hl.next b) (hq.hl.next b) hp.fl hq.fl (hp.hc.next b) (hq.hc.next b) hp.fc hq.fc (by omega) (by omega) _ rfl⟩
/-- All that the law's body asks of its callees. -/
structure Lp (w : World) (c d kk : Pt) (A B C : Option Addr) (n kc m kd b kb : Nat) (lb : List Pt) (id : Int) (M1 M2 M3 : List ((Bool × List Nat × List Nat) × Int)) (N1 N2 N3 N4 : Bool × List Nat × List Nat) (z1 z2 z3 z4 : Int) (v5 v6 : Bool) (q7 : Rat) : Prop where
  a1 : ∀ W, Below w.heap.size w W → Calls Tryz.prog 12 #[.agg #[.slice A n kc, .bool c.s, .slice c.A c.xs.length c.a, .slice c.B c.ys.length c.b], .agg #[.slice B m kd, .bool d.s, .slice d.A d.xs.length d.a, .slice d.B d.ys.length d.b]] W (RPo W M1 N1 z1)
  r1 : ∀ W, Below w.heap.size w W → Calls Tryz.prog 13 #[.agg #[.slice A n kc, .bool c.s, .slice c.A c.xs.length c.a, .slice c.B c.ys.length c.b], .agg #[.slice B m kd, .bool d.s, .slice d.A d.xs.length d.a, .slice d.B d.ys.length d.b]] W (RPo W M1 N1 z1)
  a2 : ∀ W, Below w.heap.size w W → Calls Tryz.prog 14 #[.agg #[.slice A n kc, .bool c.s, .slice c.A c.xs.length c.a, .slice c.B c.ys.length c.b], .agg #[.bool kk.s, .slice kk.A kk.xs.length kk.a, .slice kk.B kk.ys.length kk.b]] W (RPo W M2 N2 z2)
  r2 : ∀ W, Below w.heap.size w W → Calls Tryz.prog 15 #[.agg #[.slice A n kc, .bool c.s, .slice c.A c.xs.length c.a, .slice c.B c.ys.length c.b], .agg #[.bool kk.s, .slice kk.A kk.xs.length kk.a, .slice kk.B kk.ys.length kk.b]] W (RPo W M2 N2 z2)
  a3 : ∀ W, Below w.heap.size w W → Calls Tryz.prog 16 #[.agg #[.slice A n kc, .bool c.s, .slice c.A c.xs.length c.a, .slice c.B c.ys.length c.b], .int .i64 id] W (RPo W M3 N3 z3)
  r3 : ∀ W, Below w.heap.size w W → Calls Tryz.prog 17 #[.agg #[.slice A n kc, .bool c.s, .slice c.A c.xs.length c.a, .slice c.B c.ys.length c.b], .int .i64 id] W (RPo W M3 N3 z3)
  a4 : ∀ W, Below w.heap.size w W → W.cell? ⟨w.heap.size + 1 + 1 + 1, 0, none⟩ = some (.slice C b kb) → Calls Tryz.prog 18 #[.agg #[.slice A n kc, .bool c.s, .slice c.A c.xs.length c.a, .slice c.B c.ys.length c.b], .func (.func 19) #[] #[.pointer (some ⟨w.heap.size + 1 + 1 + 1, 0, none⟩)]] W (RRo W N4 z4)
  b4 : ∀ W, Below w.heap.size w W → Calls Tryz.prog 21 #[.slice C b kb] W (BndO lb W)
  r4 : ∀ W R cr, Below w.heap.size w W → Bl W R lb → Calls Tryz.prog 22 #[.agg #[.slice A n kc, .bool c.s, .slice c.A c.xs.length c.a, .slice c.B c.ys.length c.b], .slice R lb.length cr] W (RRo W N4 z4)
  a5 : ∀ W, Below w.heap.size w W → Calls Tryz.prog 25 #[.agg #[.slice A n kc, .bool c.s, .slice c.A c.xs.length c.a, .slice c.B c.ys.length c.b]] W fun e w' => e = .returned (.bool v5) ∧ Below W.heap.size W w'
  r5 : ∀ W, Below w.heap.size w W → Calls Tryz.prog 26 #[.agg #[.slice A n kc, .bool c.s, .slice c.A c.xs.length c.a, .slice c.B c.ys.length c.b]] W fun e w' => e = .returned (.bool v5) ∧ Below W.heap.size W w'
  a6 : ∀ W, Below w.heap.size w W → Calls Tryz.prog 29 #[.agg #[.slice A n kc, .bool c.s, .slice c.A c.xs.length c.a, .slice c.B c.ys.length c.b], .agg #[.slice B m kd, .bool d.s, .slice d.A d.xs.length d.a, .slice d.B d.ys.length d.b]] W fun e w' => e = .returned (.bool v6) ∧ Below W.heap.size W w'
  r6 : ∀ W, Below w.heap.size w W → Calls Tryz.prog 23 #[.agg #[.slice A n kc, .bool c.s, .slice c.A c.xs.length c.a, .slice c.B c.ys.length c.b], .agg #[.slice B m kd, .bool d.s, .slice d.A d.xs.length d.a, .slice d.B d.ys.length d.b]] W fun e w' => e = .returned (.bool v6) ∧ Below W.heap.size W w'
  a7 : ∀ W, Below w.heap.size w W → Calls Tryz.prog 27 #[.agg #[.slice A n kc, .bool c.s, .slice c.A c.xs.length c.a, .slice c.B c.ys.length c.b], .int .i64 id] W (NewR q7 W)
  r7 : ∀ W, Below w.heap.size w W → Calls Tryz.prog 28 #[.agg #[.slice A n kc, .bool c.s, .slice c.A c.xs.length c.a, .slice c.B c.ys.length c.b], .int .i64 id] W (NewR q7 W)
theorem lp_any {w : World} {c d kk : Pt} {A B C : Option Addr} {kc kd kb : Nat} {l m lb : List Pt} (hp : Pg w A l kc c) (hq : Pg w B m kd d) (hk : kk.At w) (fk : kk.Few) (k8 : kk.few8 = true) (hbl : Bl w C lb) (fb : ∀ p ∈ lb, p.Few) (b8 : ∀ p ∈ lb, p.few8 = true) (hn : lb.length ≤ 12) (id : Int) : ∃ M1 M2 M3 N1 N2 N3 N4 z1 z2 z3 z4 v5 v6 q7, Lp w c d kk A B C l.length kc m.length kd lb.length kb lb id M1 M2 M3 N1 N2 N3 N4 z1 z2 z3 z4 v5 v6 q7 := by
  obtain ⟨M1, N1, z1, a1, r1⟩ := add_pair hp hq
  obtain ⟨M2, N2, z2, a2, r2⟩ := scale_pair hp hk fk k8
  obtain ⟨M3, N3, z3, a3, r3⟩ := solve_pair hp id
  obtain ⟨N4, z4, a4, r4⟩ := value_pair (kb := kb) hp hbl fb b8 hn (w.heap.size + 1 + 1 + 1)
  obtain ⟨v5, a5, r5⟩ := valid_pair hp
  obtain ⟨v6, a6, r6⟩ := same_pair hp hq
  obtain ⟨q7, a7, r7⟩ := coef_pair hp id
  exact ⟨M1, M2, M3, N1, N2, N3, N4, z1, z2, z3, z4, v5, v6, q7, a1, r1, a2, r2, a3, r3, a4, fun W b => binds8_any C lb kb W (hbl.next b) (by omega), r4, a5, r5, a6, r6, a7, r7⟩
theorem few_l {l : List Pt} (ll : ∀ p ∈ l, Limbs p.xs ∧ Limbs p.ys) (f : ∀ p ∈ l, p.few8 = true) : ∀ p ∈ l, p.Few := fun p hp => few_o (ll p hp) (f p hp)

set_option maxHeartbeats 16000000 in
theorem lsums_law (A B C : Option Addr) (l m' lb : List Pt) (kc kd kb : Nat) (c d kk : Pt) (id : Int) (w : World) (hl : Pl w A l) (hm : Pl w B m') (hc : c.At w) (hd : d.At w) (hk : kk.At w) (hbl : Bl w C lb) (ll : ∀ p ∈ l, Limbs p.xs ∧ Limbs p.ys) (lm : ∀ p ∈ m', Limbs p.xs ∧ Limbs p.ys) (lc : Limbs c.xs ∧ Limbs c.ys) (ld : Limbs d.xs ∧ Limbs d.ys) (lkk : Limbs kk.xs ∧ Limbs kk.ys) (llb : ∀ p ∈ lb, Limbs p.xs ∧ Limbs p.ys) (nl : l.length ≤ kc) (nk : kc ≤ maxLen) (ml : m'.length ≤ kd) (mk : kd ≤ maxLen) (bl : lb.length ≤ kb) (bk : kb ≤ maxLen) :
    Calls Tryz.prog 3 #[polyV A l.length kc c, polyV B m'.length kd d, rv kk, .int .i64 id, .slice C lb.length kb] w fun e w' => e = .returned (.bool true) ∧ Below w.heap.size w w' := by
  have AW := hide (fun W => awake8_any W)
  have hmx : maxLen ≤ 9223372036854775807 := by unfold maxLen; decide
  have P1 := hide (fun W (b : Below w.heap.size w W) => pfew_any A l kc c W (hl.next b) (by omega))
  have P2 := hide (fun W (b : Below w.heap.size w W) => pfew_any B m' kd d W (hm.next b) (by omega))
  obtain ⟨r3, hr3⟩ : ∃ r, kk.few8 = r := ⟨_, rfl⟩
  have P3 := hide (fun W => fewR_any kk.s kk.A kk.B kk.xs.length kk.ys.length kk.a kk.b W r3 hr3)
  have P4 := hide (fun W (b : Below w.heap.size w W) => bfew8_any C lb kb W (hbl.next b) (by omega))
  have LP := hide (fun (h1 : l.length ≤ 10 ∧ (∀ p ∈ l, p.few8 = true) ∧ c.few8 = true) (h2 : m'.length ≤ 10 ∧ (∀ p ∈ m', p.few8 = true) ∧ d.few8 = true) (h3 : r3 = true) (h4 : lb.length ≤ 12 ∧ ∀ p ∈ lb, p.few8 = true) => lp_any (kb := kb) ⟨hl, hc, few_l ll h1.2.1, few_o lc h1.2.2, h1.2.1, h1.2.2, h1.1, nl, nk⟩ ⟨hm, hd, few_l lm h2.2.1, few_o ld h2.2.2, h2.2.1, h2.2.2, h2.1, ml, mk⟩ hk (few_o lkk (hr3.trans h3)) (hr3.trans h3) hbl (few_l llb h4.2) h4.2 h4.1 id)
  have st := B4.start w c d kk A B C l.length kc m'.length kd lb.length kb
  obtain ⟨bb, B_⟩ : Hid (Below w.heap.size w (W4 w c d kk A B C l.length kc m'.length kd lb.length kb)) ∧ Hid (B4 w c d kk A B C l.length kc m'.length kd lb.length kb (W4 w c d kk A B C l.length kc m'.length kd lb.length kb)) := ⟨hide st.2, hide st.1⟩
  clear st hl hm hc hd hk hbl ll lm lc ld lkk llb nl nk ml mk bl bk hr3
  obtain ⟨n, hn⟩ : ∃ n, n = l.length := ⟨_, rfl⟩
  obtain ⟨m, hm⟩ : ∃ n, n = m'.length := ⟨_, rfl⟩
  obtain ⟨b, hb_⟩ : ∃ n, n = lb.length := ⟨_, rfl⟩
  unfold polyV rv at *
  unfold W4 at bb B_
  rw [← hn] at P1 LP bb B_ ⊢
  rw [← hm] at P2 LP bb B_ ⊢
  rw [← hb_] at P4 LP bb B_ ⊢
  replace hn := hide hn; replace hm := hide hm; replace hb_ := hide hb_
  obtain ⟨⟨x0, x1, x2, x3⟩, ⟨y0, y1, y2, y3⟩, ⟨k0, k1, k2⟩, b0⟩ := B_.out
  go_enter Tryz.func3, Tryz.ntmps3
  go_upto_region 3 with (first
    | (go_at_call 8; (with_reducible refine (P1.out _ bb.out).mono ?_); rintro e w1 ⟨r1, rfl, hb, h1⟩; replace bb := hide (bl_trans bb.out hb); replace B_ := hide (B_.out.next hb); clear hb; clear x0 x1 x2 x3 y0 y1 y2 y3 k0 k1 k2 b0; obtain ⟨⟨x0, x1, x2, x3⟩, ⟨y0, y1, y2, y3⟩, ⟨k0, k1, k2⟩, b0⟩ := B_.out; cases r1 <;> replace h1 := hide h1)
    | (go_at_call 8; (with_reducible refine (P2.out _ bb.out).mono ?_); rintro e w1 ⟨r2, rfl, hb, h2⟩; replace bb := hide (bl_trans bb.out hb); replace B_ := hide (B_.out.next hb); clear hb; clear x0 x1 x2 x3 y0 y1 y2 y3 k0 k1 k2 b0; obtain ⟨⟨x0, x1, x2, x3⟩, ⟨y0, y1, y2, y3⟩, ⟨k0, k1, k2⟩, b0⟩ := B_.out; cases r2 <;> replace h2 := hide h2)
    | (go_at_call 9; (with_reducible refine (P3.out _).mono ?_); rintro e w1 ⟨rfl, hb⟩; replace bb := hide (bl_trans bb.out hb); replace B_ := hide (B_.out.next hb); clear hb; clear x0 x1 x2 x3 y0 y1 y2 y3 k0 k1 k2 b0; obtain ⟨⟨x0, x1, x2, x3⟩, ⟨y0, y1, y2, y3⟩, ⟨k0, k1, k2⟩, b0⟩ := B_.out; cases r3)
    | (go_at_call 10; (with_reducible refine (P4.out _ bb.out).mono ?_); rintro e w1 ⟨r4, rfl, hb, h4⟩; replace bb := hide (bl_trans bb.out hb); replace B_ := hide (B_.out.next hb); clear hb; clear x0 x1 x2 x3 y0 y1 y2 y3 k0 k1 k2 b0; obtain ⟨⟨x0, x1, x2, x3⟩, ⟨y0, y1, y2, y3⟩, ⟨k0, k1, k2⟩, b0⟩ := B_.out; cases r4 <;> replace h4 := hide h4)
    | (go_at_call 11; (with_reducible refine (AW.out _).mono ?_); rintro e w1 ⟨rfl, hb⟩; replace bb := hide (bl_trans bb.out hb); clear hb)
    | fail)
  · go_ret
    exact ⟨rfl, bb.out⟩
  · go_ret
    exact ⟨rfl, bb.out⟩
  · go_ret
    exact ⟨rfl, bb.out⟩
  · go_ret
    exact ⟨rfl, bb.out⟩
  obtain ⟨M1, M2, M3, N1, N2, N3, N4, zz1, zz2, zz3, zz4, v5, v6, q7, L⟩ := LP.out (h1.out (by first | rfl | trivial)) (h2.out (by first | rfl | trivial)) (by first | rfl | trivial) (h4.out (by first | rfl | trivial))
  clear LP P1 P2 P3 P4 h1 h2 h4
  have E1 := same_z zz1; have E2 := same_z zz2; have E3 := same_z zz3; have E4 := same_z zz4; have E5 := same_v v5; have E6 := same_v v6
  replace L := hide L
  go_upto_region 10 with (first
    | (go_at_call 12; (with_reducible refine (L.out.a1 _ bb.out).mono ?_); rintro e wp1 ⟨Ap1, kp1, lp1, cp1, rfl, hMp1, hNp1, pp1, tp1, fp1, gp1, np1, hb⟩; have g := bl_al hb (.cells #[.slice Ap1 lp1.length kp1, .bool cp1.s, .slice cp1.A cp1.xs.length cp1.a, .slice cp1.B cp1.ys.length cp1.b] 27); have Hp1 := hide (pw_new kp1 hMp1 hNp1 pp1 tp1 fp1 gp1 np1); replace bb := hide (bl_trans bb.out g); replace B_ := hide (B_.out.next g); clear x0 x1 x2 x3 y0 y1 y2 y3 k0 k1 k2 b0; clear hb g; clear hMp1 hNp1 pp1 tp1 fp1 gp1 np1; obtain ⟨⟨x0, x1, x2, x3⟩, ⟨y0, y1, y2, y3⟩, ⟨k0, k1, k2⟩, b0⟩ := B_.out)
    | (go_at_call 13; (with_reducible refine (L.out.r1 _ bb.out).mono ?_); rintro e wp2 ⟨Ap2, kp2, lp2, cp2, rfl, hMp2, hNp2, pp2, tp2, fp2, gp2, np2, hb⟩; have g := bl_al hb (.cells #[.slice Ap2 lp2.length kp2, .bool cp2.s, .slice cp2.A cp2.xs.length cp2.a, .slice cp2.B cp2.ys.length cp2.b] 27); have Hp2 := hide (pw_new kp2 hMp2 hNp2 pp2 tp2 fp2 gp2 np2); replace Hp1 := hide (Hp1.out.next g); replace bb := hide (bl_trans bb.out g); replace B_ := hide (B_.out.next g); clear x0 x1 x2 x3 y0 y1 y2 y3 k0 k1 k2 b0; clear hb g; clear hMp2 hNp2 pp2 tp2 fp2 gp2 np2; obtain ⟨⟨x0, x1, x2, x3⟩, ⟨y0, y1, y2, y3⟩, ⟨k0, k1, k2⟩, b0⟩ := B_.out)
    | (go_at_call 14; (with_reducible refine (L.out.a2 _ bb.out).mono ?_); rintro e wp3 ⟨Ap3, kp3, lp3, cp3, rfl, hMp3, hNp3, pp3, tp3, fp3, gp3, np3, hb⟩; have g := bl_al hb (.cells #[.slice Ap3 lp3.length kp3, .bool cp3.s, .slice cp3.A cp3.xs.length cp3.a, .slice cp3.B cp3.ys.length cp3.b] 27); have Hp3 := hide (pw_new kp3 hMp3 hNp3 pp3 tp3 fp3 gp3 np3); replace Hp1 := hide (Hp1.out.next g); replace Hp2 := hide (Hp2.out.next g); replace bb := hide (bl_trans bb.out g); replace B_ := hide (B_.out.next g); clear x0 x1 x2 x3 y0 y1 y2 y3 k0 k1 k2 b0; clear hb g; clear hMp3 hNp3 pp3 tp3 fp3 gp3 np3; obtain ⟨⟨x0, x1, x2, x3⟩, ⟨y0, y1, y2, y3⟩, ⟨k0, k1, k2⟩, b0⟩ := B_.out)
    | (go_at_call 15; (with_reducible refine (L.out.r2 _ bb.out).mono ?_); rintro e wp4 ⟨Ap4, kp4, lp4, cp4, rfl, hMp4, hNp4, pp4, tp4, fp4, gp4, np4, hb⟩; have g := bl_al hb (.cells #[.slice Ap4 lp4.length kp4, .bool cp4.s, .slice cp4.A cp4.xs.length cp4.a, .slice cp4.B cp4.ys.length cp4.b] 27); have Hp4 := hide (pw_new kp4 hMp4 hNp4 pp4 tp4 fp4 gp4 np4); replace Hp1 := hide (Hp1.out.next g); replace Hp2 := hide (Hp2.out.next g); replace Hp3 := hide (Hp3.out.next g); replace bb := hide (bl_trans bb.out g); replace B_ := hide (B_.out.next g); clear x0 x1 x2 x3 y0 y1 y2 y3 k0 k1 k2 b0; clear hb g; clear hMp4 hNp4 pp4 tp4 fp4 gp4 np4; obtain ⟨⟨x0, x1, x2, x3⟩, ⟨y0, y1, y2, y3⟩, ⟨k0, k1, k2⟩, b0⟩ := B_.out)
    | (go_at_call 16; (with_reducible refine (L.out.a3 _ bb.out).mono ?_); rintro e wp5 ⟨Ap5, kp5, lp5, cp5, rfl, hMp5, hNp5, pp5, tp5, fp5, gp5, np5, hb⟩; have g := bl_al hb (.cells #[.slice Ap5 lp5.length kp5, .bool cp5.s, .slice cp5.A cp5.xs.length cp5.a, .slice cp5.B cp5.ys.length cp5.b] 27); have Hp5 := hide (pw_new kp5 hMp5 hNp5 pp5 tp5 fp5 gp5 np5); replace Hp1 := hide (Hp1.out.next g); replace Hp2 := hide (Hp2.out.next g); replace Hp3 := hide (Hp3.out.next g); replace Hp4 := hide (Hp4.out.next g); replace bb := hide (bl_trans bb.out g); replace B_ := hide (B_.out.next g); clear x0 x1 x2 x3 y0 y1 y2 y3 k0 k1 k2 b0; clear hb g; clear hMp5 hNp5 pp5 tp5 fp5 gp5 np5; obtain ⟨⟨x0, x1, x2, x3⟩, ⟨y0, y1, y2, y3⟩, ⟨k0, k1, k2⟩, b0⟩ := B_.out)
    | (go_at_call 17; (with_reducible refine (L.out.r3 _ bb.out).mono ?_); rintro e wp6 ⟨Ap6, kp6, lp6, cp6, rfl, hMp6, hNp6, pp6, tp6, fp6, gp6, np6, hb⟩; have g := bl_al hb (.cells #[.slice Ap6 lp6.length kp6, .bool cp6.s, .slice cp6.A cp6.xs.length cp6.a, .slice cp6.B cp6.ys.length cp6.b] 27); have Hp6 := hide (pw_new kp6 hMp6 hNp6 pp6 tp6 fp6 gp6 np6); replace Hp1 := hide (Hp1.out.next g); replace Hp2 := hide (Hp2.out.next g); replace Hp3 := hide (Hp3.out.next g); replace Hp4 := hide (Hp4.out.next g); replace Hp5 := hide (Hp5.out.next g); replace bb := hide (bl_trans bb.out g); replace B_ := hide (B_.out.next g); clear x0 x1 x2 x3 y0 y1 y2 y3 k0 k1 k2 b0; clear hb g; clear hMp6 hNp6 pp6 tp6 fp6 gp6 np6; obtain ⟨⟨x0, x1, x2, x3⟩, ⟨y0, y1, y2, y3⟩, ⟨k0, k1, k2⟩, b0⟩ := B_.out)
    | (go_at_call 18; (with_reducible refine (L.out.a4 _ bb.out b0).mono ?_); rintro e wp7 ⟨rp7, rfl, hNp7, fp7, tp7, hb⟩; have g := bl_al hb (.cells #[.bool rp7.s, .slice rp7.A rp7.xs.length rp7.a, .slice rp7.B rp7.ys.length rp7.b] 25); have Hp7 := hide (nw_new hNp7 fp7 tp7); replace Hp1 := hide (Hp1.out.next g); replace Hp2 := hide (Hp2.out.next g); replace Hp3 := hide (Hp3.out.next g); replace Hp4 := hide (Hp4.out.next g); replace Hp5 := hide (Hp5.out.next g); replace Hp6 := hide (Hp6.out.next g); replace bb := hide (bl_trans bb.out g); replace B_ := hide (B_.out.next g); clear x0 x1 x2 x3 y0 y1 y2 y3 k0 k1 k2 b0; clear hb g; clear hNp7 fp7 tp7; obtain ⟨⟨x0, x1, x2, x3⟩, ⟨y0, y1, y2, y3⟩, ⟨k0, k1, k2⟩, b0⟩ := B_.out)
    | fail)
  generalize wp1.heap.size = G1 at *
  generalize wp2.heap.size = G2 at *
  generalize wp3.heap.size = G3 at *
  generalize wp4.heap.size = G4 at *
  generalize wp5.heap.size = G5 at *
  generalize wp6.heap.size = G6 at *
  generalize wp7.heap.size = gu at *
  generalize wp7.alloc _ = wq at *
  have SS := hide (fun W (b_ : Below wq.heap.size wq W) => (show (W.cell? ⟨w.heap.size, 0, none⟩ = some (.slice A n kc) ∧ W.cell? ⟨w.heap.size, 1, none⟩ = some (.bool c.s) ∧ W.cell? ⟨w.heap.size, 2, none⟩ = some (.slice c.A c.xs.length c.a) ∧ W.cell? ⟨w.heap.size, 3, none⟩ = some (.slice c.B c.ys.length c.b)) ∧ W.cell? ⟨w.heap.size + 1 + 1 + 1, 0, none⟩ = some (.slice C b kb) from And.intro (B_.out.next b_).1 (B_.out.next b_).2.2.2))
  clear x0 x1 x2 x3 y0 y1 y2 y3 k0 k1 k2 b0
  go_cut [25, 26] (fun sa sb wx => ∃ (gv : Nat) (rv_ : Pt), sa = .pointer (some ⟨gv, 0, none⟩) ∧ sb = .int .i64 zz4 ∧ Nrx N4 gv rv_ wx ∧ Below wq.heap.size wq wx)
  case first =>
    clear Hp1 Hp2 Hp3 Hp4 Hp5 Hp6 Hp7
    go_region_held3 (fun W => (W.cell? ⟨w.heap.size, 0, none⟩ = some (.slice A n kc) ∧ W.cell? ⟨w.heap.size, 1, none⟩ = some (.bool c.s) ∧ W.cell? ⟨w.heap.size, 2, none⟩ = some (.slice c.A c.xs.length c.a) ∧ W.cell? ⟨w.heap.size, 3, none⟩ = some (.slice c.B c.ys.length c.b)) ∧ W.cell? ⟨w.heap.size + 1 + 1 + 1, 0, none⟩ = some (.slice C b kb))
      (first
        | (with_reducible exact SS.out _ (ka0 wq))
        | (with_reducible exact SS.out _ (ka1 wq _))
        | (with_reducible exact SS.out _ be)
        | (with_reducible exact SS.out _ (bl_al be _))
        | (with_reducible exact SS.out _ (be.trans ((off3 _ _ _ _ _).below be.size (fun b hb => by simp at hb; omega))))
        | (with_reducible exact SS.out _ bc)
        | (with_reducible exact SS.out _ (bl_al bc _))
        | fail)
      (first
        | (go_at_call 21; (with_reducible refine (L.out.b4 _ ?hw).mono ?_); (case hw => first | (with_reducible exact bl_trans bb.out (ka0 wq)) | (with_reducible exact bl_trans bb.out (ka1 wq _)) | fail); rintro e wa ⟨R_, cr, rfl, hR_, hb⟩; have bc : Below wq.heap.size wq wa := (by first | (with_reducible exact bl_trans (ka0 wq) hb) | (with_reducible exact bl_trans (ka1 wq _) hb)); have n1 := bc.size; (first | (have hZ : Hid (Bk wq.heap.size #[.bool false, .slice none 0 0, .slice none 0 0] 25 wa) := by with_reducible exact hide (zd hb)) | skip); replace hR_ := hide hR_; clear hb)
        | (go_at_call 22; (with_reducible refine (L.out.r4 _ R_ cr ?h1 ?h2).mono ?_); (case h1 => first | (with_reducible exact bl_trans bb.out bc) | (with_reducible exact bl_trans bb.out (bl_al bc _)) | fail); (case h2 => first | (with_reducible exact hR_.out) | (with_reducible exact hR_.out.next (bl_al (.refl _ _) _)) | fail); rintro e wd ⟨r, rfl, hrN, hrf, hra, hb⟩; have g2 : Below wa.heap.size wa wd := (by first | (with_reducible exact hb) | (with_reducible exact bl_one hb)); have be := bl_trans bc g2; have n3 := be.size; have n4 := g2.size; (first | (have hZ3 := hide (hZ.out.next g2)) | (have hZ3 : Hid (Bk wa.heap.size #[.bool false, .slice none 0 0, .slice none 0 0] 25 wd) := by with_reducible exact hide (z1 hb)) | skip); (first | (have v0 := hZ3.out.cell (j := 0) rfl; have v1 := hZ3.out.cell (j := 1) rfl; have v2 := hZ3.out.cell (j := 2) rfl; have u0 := hZ3.out.free 0; have u1 := hZ3.out.free 1; have u2 := hZ3.out.free 2) | skip); clear hb)
        | fail)
    all_goals
      go_wp2_with fail
      go_meet
      first
        | with_reducible refine ⟨wd.heap.size, r, rfl, rfl, ?_, bl_al be _⟩
          exact nw_new hrN hrf hra
        | with_reducible refine ⟨_, r, rfl, rfl, ?_, be.trans ((off3 _ _ _ _ _).below be.size (fun b hb => by simp at hb; omega))⟩
          exact ⟨hrN, hrf, at_offR hZ3.out hra (off3 _ _ _ _ _), C3.of (((hZ3.out.set (.bool r.s) rfl).set (.slice r.A r.xs.length r.a) rfl).set (.slice r.B r.ys.length r.b) rfl)⟩
        | fail
  case rest =>
    obtain ⟨gv, rv_, rfl, rfl, Hv, g⟩ := hcut
    replace Hv := hide Hv
    replace Hp1 := hide (Hp1.out.next g); replace Hp2 := hide (Hp2.out.next g); replace Hp3 := hide (Hp3.out.next g); replace Hp4 := hide (Hp4.out.next g); replace Hp5 := hide (Hp5.out.next g); replace Hp6 := hide (Hp6.out.next g); replace Hp7 := hide (Hp7.out.next g); replace bb := hide (bl_trans bb.out g); replace B_ := hide (B_.out.next g)
    clear g SS
    obtain ⟨⟨x0, x1, x2, x3⟩, ⟨y0, y1, y2, y3⟩, ⟨k0, k1, k2⟩, b0⟩ := B_.out
    rename World => w12
    have SS := hide (fun W (b_ : Below w12.heap.size w12 W) => (show (W.cell? ⟨w.heap.size, 0, none⟩ = some (.slice A n kc) ∧ W.cell? ⟨w.heap.size, 1, none⟩ = some (.bool c.s) ∧ W.cell? ⟨w.heap.size, 2, none⟩ = some (.slice c.A c.xs.length c.a) ∧ W.cell? ⟨w.heap.size, 3, none⟩ = some (.slice c.B c.ys.length c.b)) ∧ (W.cell? ⟨w.heap.size + 1, 0, none⟩ = some (.slice B m kd) ∧ W.cell? ⟨w.heap.size + 1, 1, none⟩ = some (.bool d.s) ∧ W.cell? ⟨w.heap.size + 1, 2, none⟩ = some (.slice d.A d.xs.length d.a) ∧ W.cell? ⟨w.heap.size + 1, 3, none⟩ = some (.slice d.B d.ys.length d.b)) ∧ (W.cell? ⟨G1, 0, none⟩ = some (.slice Ap1 lp1.length kp1) ∧ W.cell? ⟨G1, 1, none⟩ = some (.bool cp1.s) ∧ W.cell? ⟨G1, 2, none⟩ = some (.slice cp1.A cp1.xs.length cp1.a) ∧ W.cell? ⟨G1, 3, none⟩ = some (.slice cp1.B cp1.ys.length cp1.b)) ∧ (W.cell? ⟨G2, 0, none⟩ = some (.slice Ap2 lp2.length kp2) ∧ W.cell? ⟨G2, 1, none⟩ = some (.bool cp2.s) ∧ W.cell? ⟨G2, 2, none⟩ = some (.slice cp2.A cp2.xs.length cp2.a) ∧ W.cell? ⟨G2, 3, none⟩ = some (.slice cp2.B cp2.ys.length cp2.b)) ∧ (W.cell? ⟨G3, 0, none⟩ = some (.slice Ap3 lp3.length kp3) ∧ W.cell? ⟨G3, 1, none⟩ = some (.bool cp3.s) ∧ W.cell? ⟨G3, 2, none⟩ = some (.slice cp3.A cp3.xs.length cp3.a) ∧ W.cell? ⟨G3, 3, none⟩ = some (.slice cp3.B cp3.ys.length cp3.b)) ∧ (W.cell? ⟨G4, 0, none⟩ = some (.slice Ap4 lp4.length kp4) ∧ W.cell? ⟨G4, 1, none⟩ = some (.bool cp4.s) ∧ W.cell? ⟨G4, 2, none⟩ = some (.slice cp4.A cp4.xs.length cp4.a) ∧ W.cell? ⟨G4, 3, none⟩ = some (.slice cp4.B cp4.ys.length cp4.b)) ∧ (W.cell? ⟨G5, 0, none⟩ = some (.slice Ap5 lp5.length kp5) ∧ W.cell? ⟨G5, 1, none⟩ = some (.bool cp5.s) ∧ W.cell? ⟨G5, 2, none⟩ = some (.slice cp5.A cp5.xs.length cp5.a) ∧ W.cell? ⟨G5, 3, none⟩ = some (.slice cp5.B cp5.ys.length cp5.b)) ∧ (W.cell? ⟨G6, 0, none⟩ = some (.slice Ap6 lp6.length kp6) ∧ W.cell? ⟨G6, 1, none⟩ = some (.bool cp6.s) ∧ W.cell? ⟨G6, 2, none⟩ = some (.slice cp6.A cp6.xs.length cp6.a) ∧ W.cell? ⟨G6, 3, none⟩ = some (.slice cp6.B cp6.ys.length cp6.b)) ∧ (W.cell? ⟨gu, 0, none⟩ = some (.bool rp7.s) ∧ W.cell? ⟨gu, 1, none⟩ = some (.slice rp7.A rp7.xs.length rp7.a) ∧ W.cell? ⟨gu, 2, none⟩ = some (.slice rp7.B rp7.ys.length rp7.b)) ∧ (W.cell? ⟨gv, 0, none⟩ = some (.bool rv_.s) ∧ W.cell? ⟨gv, 1, none⟩ = some (.slice rv_.A rv_.xs.length rv_.a) ∧ W.cell? ⟨gv, 2, none⟩ = some (.slice rv_.B rv_.ys.length rv_.b)) from And.intro (B_.out.next b_).1 (And.intro (B_.out.next b_).2.1 (And.intro (Hp1.out.next b_).x (And.intro (Hp2.out.next b_).x (And.intro (Hp3.out.next b_).x (And.intro (Hp4.out.next b_).x (And.intro (Hp5.out.next b_).x (And.intro (Hp6.out.next b_).x (And.intro (Hp7.out.next b_).x (Hv.out.next b_).x))))))))))
    go_wp2_with fail
    dsimp only [List.append]
    have bw := bb.out
    replace bb := ka0 w12
    refine wp_region_held_drew (S := fun W => (W.cell? ⟨w.heap.size, 0, none⟩ = some (.slice A n kc) ∧ W.cell? ⟨w.heap.size, 1, none⟩ = some (.bool c.s) ∧ W.cell? ⟨w.heap.size, 2, none⟩ = some (.slice c.A c.xs.length c.a) ∧ W.cell? ⟨w.heap.size, 3, none⟩ = some (.slice c.B c.ys.length c.b)) ∧ (W.cell? ⟨w.heap.size + 1, 0, none⟩ = some (.slice B m kd) ∧ W.cell? ⟨w.heap.size + 1, 1, none⟩ = some (.bool d.s) ∧ W.cell? ⟨w.heap.size + 1, 2, none⟩ = some (.slice d.A d.xs.length d.a) ∧ W.cell? ⟨w.heap.size + 1, 3, none⟩ = some (.slice d.B d.ys.length d.b)) ∧ (W.cell? ⟨G1, 0, none⟩ = some (.slice Ap1 lp1.length kp1) ∧ W.cell? ⟨G1, 1, none⟩ = some (.bool cp1.s) ∧ W.cell? ⟨G1, 2, none⟩ = some (.slice cp1.A cp1.xs.length cp1.a) ∧ W.cell? ⟨G1, 3, none⟩ = some (.slice cp1.B cp1.ys.length cp1.b)) ∧ (W.cell? ⟨G2, 0, none⟩ = some (.slice Ap2 lp2.length kp2) ∧ W.cell? ⟨G2, 1, none⟩ = some (.bool cp2.s) ∧ W.cell? ⟨G2, 2, none⟩ = some (.slice cp2.A cp2.xs.length cp2.a) ∧ W.cell? ⟨G2, 3, none⟩ = some (.slice cp2.B cp2.ys.length cp2.b)) ∧ (W.cell? ⟨G3, 0, none⟩ = some (.slice Ap3 lp3.length kp3) ∧ W.cell? ⟨G3, 1, none⟩ = some (.bool cp3.s) ∧ W.cell? ⟨G3, 2, none⟩ = some (.slice cp3.A cp3.xs.length cp3.a) ∧ W.cell? ⟨G3, 3, none⟩ = some (.slice cp3.B cp3.ys.length cp3.b)) ∧ (W.cell? ⟨G4, 0, none⟩ = some (.slice Ap4 lp4.length kp4) ∧ W.cell? ⟨G4, 1, none⟩ = some (.bool cp4.s) ∧ W.cell? ⟨G4, 2, none⟩ = some (.slice cp4.A cp4.xs.length cp4.a) ∧ W.cell? ⟨G4, 3, none⟩ = some (.slice cp4.B cp4.ys.length cp4.b)) ∧ (W.cell? ⟨G5, 0, none⟩ = some (.slice Ap5 lp5.length kp5) ∧ W.cell? ⟨G5, 1, none⟩ = some (.bool cp5.s) ∧ W.cell? ⟨G5, 2, none⟩ = some (.slice cp5.A cp5.xs.length cp5.a) ∧ W.cell? ⟨G5, 3, none⟩ = some (.slice cp5.B cp5.ys.length cp5.b)) ∧ (W.cell? ⟨G6, 0, none⟩ = some (.slice Ap6 lp6.length kp6) ∧ W.cell? ⟨G6, 1, none⟩ = some (.bool cp6.s) ∧ W.cell? ⟨G6, 2, none⟩ = some (.slice cp6.A cp6.xs.length cp6.a) ∧ W.cell? ⟨G6, 3, none⟩ = some (.slice cp6.B cp6.ys.length cp6.b)) ∧ (W.cell? ⟨gu, 0, none⟩ = some (.bool rp7.s) ∧ W.cell? ⟨gu, 1, none⟩ = some (.slice rp7.A rp7.xs.length rp7.a) ∧ W.cell? ⟨gu, 2, none⟩ = some (.slice rp7.B rp7.ys.length rp7.b)) ∧ (W.cell? ⟨gv, 0, none⟩ = some (.bool rv_.s) ∧ W.cell? ⟨gv, 1, none⟩ = some (.slice rv_.A rv_.xs.length rv_.a) ∧ W.cell? ⟨gv, 2, none⟩ = some (.slice rv_.B rv_.ys.length rv_.b))) (by kernel_rfl) ?_ (fun hHeld => ?_)
    · (try dsimp only)
      with_reducible exact SS.out _ (ka0 w12)
    refine wpAnyH_take (i := 0) (v := ?vv0) (by (simp only [List.getElem?_toArray, List.getElem?_cons_zero, List.getElem?_cons_succ]) <;> rfl) (by kernel_rfl) (by kernel_rfl) (by kernel_rfl) ?hq0 (Or.inl ⟨by rfl, ?hy0⟩) (by assumption) ?_
    case hq0 => exact fun _ _ _ h => h
    case hy0 => ((intro w hSw; (try dsimp only at hSw); go_simp) <;> (with_reducible rfl))
    (try simp only [Act.put, List.setIfInBounds_toArray, List.set_cons_zero, List.set_cons_succ])
    refine wpAnyH_take (i := 1) (v := ?vv1) (by (simp only [List.getElem?_toArray, List.getElem?_cons_zero, List.getElem?_cons_succ]) <;> rfl) (by kernel_rfl) (by kernel_rfl) (by kernel_rfl) ?hq1 (Or.inl ⟨by rfl, ?hy1⟩) (by assumption) ?_
    case hq1 => exact fun _ _ _ h => h
    case hy1 => ((intro w hSw; (try dsimp only at hSw); go_simp) <;> (with_reducible rfl))
    (try simp only [Act.put, List.setIfInBounds_toArray, List.set_cons_zero, List.set_cons_succ])
    refine wpAnyH_ready (rs := [2]) (by kernel_rfl) (by simp) ?_
    refine AllReadyH.cons (by (simp only [List.getElem?_toArray, List.getElem?_cons_zero, List.getElem?_cons_succ]) <;> rfl) (fun K hK => ?_) AllReadyH.nil
    go_simp
    (go_at_call 23; (with_reducible refine (pw_same (Hp1.out.next bb) (Hp2.out.next bb)).mono ?_); rintro e wz ⟨rfl, hb⟩; replace bb := bl_trans bb hb; clear hb)
    (try go_wp2_with fail)
    refine hK.out _ _ ?_ (fun hHeld => ?_)
    · (try dsimp only)
      with_reducible exact SS.out _ bb
    (try clear hK K)
    (try simp only [Act.put, List.setIfInBounds_toArray, List.set_cons_zero, List.set_cons_succ])
    refine wpAnyH_take (i := 3) (v := ?vv3) (by (simp only [List.getElem?_toArray, List.getElem?_cons_zero, List.getElem?_cons_succ]) <;> rfl) (by kernel_rfl) (by kernel_rfl) (by kernel_rfl) ?hq3 (Or.inl ⟨by rfl, ?hy3⟩) (by assumption) ?_
    case hq3 => exact fun _ _ _ h => h
    case hy3 => ((intro w hSw; (try dsimp only at hSw); go_simp) <;> (with_reducible rfl))
    (try simp only [Act.put, List.setIfInBounds_toArray, List.set_cons_zero, List.set_cons_succ])
    refine wpAnyH_take (i := 4) (v := ?vv4) (by (simp only [List.getElem?_toArray, List.getElem?_cons_zero, List.getElem?_cons_succ]) <;> rfl) (by kernel_rfl) (by kernel_rfl) (by kernel_rfl) ?hq4 (Or.inl ⟨by rfl, ?hy4⟩) (by assumption) ?_
    case hq4 => exact fun _ _ _ h => h
    case hy4 => ((intro w hSw; (try dsimp only at hSw); go_simp) <;> (with_reducible rfl))
    (try simp only [Act.put, List.setIfInBounds_toArray, List.set_cons_zero, List.set_cons_succ])
    refine wpAnyH_take (i := 5) (v := ?vv5) (by (simp only [List.getElem?_toArray, List.getElem?_cons_zero, List.getElem?_cons_succ]) <;> rfl) (by kernel_rfl) (by kernel_rfl) (by kernel_rfl) ?hq5 (Or.inl ⟨by rfl, ?hy5⟩) (by assumption) ?_
    case hq5 => exact fun _ _ _ h => h
    case hy5 => ((intro w hSw; (try dsimp only at hSw); go_simp) <;> (with_reducible rfl))
    (try simp only [Act.put, List.setIfInBounds_toArray, List.set_cons_zero, List.set_cons_succ])
    refine wpAnyH_take (i := 6) (v := ?vv6) (by (simp only [List.getElem?_toArray, List.getElem?_cons_zero, List.getElem?_cons_succ]) <;> rfl) (by kernel_rfl) (by kernel_rfl) (by kernel_rfl) ?hq6 (Or.inl ⟨by rfl, ?hy6⟩) (by assumption) ?_
    case hq6 => exact fun _ _ _ h => h
    case hy6 => ((intro w hSw; (try dsimp only at hSw); go_simp) <;> (with_reducible rfl))
    (try simp only [Act.put, List.setIfInBounds_toArray, List.set_cons_zero, List.set_cons_succ])
    refine wpAnyH_take (i := 7) (v := ?vv7) (by (simp only [List.getElem?_toArray, List.getElem?_cons_zero, List.getElem?_cons_succ]) <;> rfl) (by kernel_rfl) (by kernel_rfl) (by kernel_rfl) ?hq7 (Or.inl ⟨by rfl, ?hy7⟩) (by assumption) ?_
    case hq7 => exact fun _ _ _ h => h
    case hy7 => ((intro w hSw; (try dsimp only at hSw); go_simp) <;> (with_reducible rfl))
    (try simp only [Act.put, List.setIfInBounds_toArray, List.set_cons_zero, List.set_cons_succ])
    refine wpAnyH_take (i := 8) (v := ?vv8) (by (simp only [List.getElem?_toArray, List.getElem?_cons_zero, List.getElem?_cons_succ]) <;> rfl) (by kernel_rfl) (by kernel_rfl) (by kernel_rfl) ?hq8 (Or.inl ⟨by rfl, ?hy8⟩) (by assumption) ?_
    case hq8 => exact fun _ _ _ h => h
    case hy8 => ((intro w hSw; (try dsimp only at hSw); go_simp) <;> (with_reducible rfl))
    (try simp only [Act.put, List.setIfInBounds_toArray, List.set_cons_zero, List.set_cons_succ])
    refine wpAnyH_take (i := 9) (v := ?vv9) (by (simp only [List.getElem?_toArray, List.getElem?_cons_zero, List.getElem?_cons_succ]) <;> rfl) (by kernel_rfl) (by kernel_rfl) (by kernel_rfl) ?hq9 (Or.inl ⟨by rfl, ?hy9⟩) (by assumption) ?_
    case hq9 => exact fun _ _ _ h => h
    case hy9 => ((intro w hSw; (try dsimp only at hSw); go_simp) <;> (with_reducible rfl))
    (try simp only [Act.put, List.setIfInBounds_toArray, List.set_cons_zero, List.set_cons_succ])
    refine wpAnyH_take (i := 10) (v := ?vv10) (by (simp only [List.getElem?_toArray, List.getElem?_cons_zero, List.getElem?_cons_succ]) <;> rfl) (by kernel_rfl) (by kernel_rfl) (by kernel_rfl) ?hq10 (Or.inl ⟨by rfl, ?hy10⟩) (by assumption) ?_
    case hq10 => exact fun _ _ _ h => h
    case hy10 => ((intro w hSw; (try dsimp only at hSw); go_simp) <;> (with_reducible rfl))
    (try simp only [Act.put, List.setIfInBounds_toArray, List.set_cons_zero, List.set_cons_succ])
    refine wpAnyH_ready (rs := [11]) (by kernel_rfl) (by simp) ?_
    refine AllReadyH.cons (by (simp only [List.getElem?_toArray, List.getElem?_cons_zero, List.getElem?_cons_succ]) <;> rfl) (fun K hK => ?_) AllReadyH.nil
    go_simp
    (go_at_call 23; (with_reducible refine (pw_same (Hp3.out.next bb) (Hp4.out.next bb)).mono ?_); rintro e wz ⟨rfl, hb⟩; replace bb := bl_trans bb hb; clear hb)
    (try go_wp2_with fail)
    refine hK.out _ _ ?_ (fun hHeld => ?_)
    · (try dsimp only)
      with_reducible exact SS.out _ bb
    (try clear hK K)
    (try simp only [Act.put, List.setIfInBounds_toArray, List.set_cons_zero, List.set_cons_succ])
    as_aux_lemma =>
      refine wpAnyH_take (i := 12) (v := ?vv12) (by (simp only [List.getElem?_toArray, List.getElem?_cons_zero, List.getElem?_cons_succ]) <;> rfl) (by kernel_rfl) (by kernel_rfl) (by kernel_rfl) ?hq12 (Or.inl ⟨by rfl, ?hy12⟩) (by assumption) ?_
      case hq12 => exact fun _ _ _ h => h
      case hy12 => ((intro w hSw; (try dsimp only at hSw); go_simp) <;> (with_reducible rfl))
      (try simp only [Act.put, List.setIfInBounds_toArray, List.set_cons_zero, List.set_cons_succ])
      refine wpAnyH_take (i := 13) (v := ?vv13) (by (simp only [List.getElem?_toArray, List.getElem?_cons_zero, List.getElem?_cons_succ]) <;> rfl) (by kernel_rfl) (by kernel_rfl) (by kernel_rfl) ?hq13 (Or.inl ⟨by rfl, ?hy13⟩) (by assumption) ?_
      case hq13 => exact fun _ _ _ h => h
      case hy13 => ((intro w hSw; (try dsimp only at hSw); go_simp) <;> (with_reducible rfl))
      (try simp only [Act.put, List.setIfInBounds_toArray, List.set_cons_zero, List.set_cons_succ])
      refine wpAnyH_take (i := 14) (v := ?vv14) (by (simp only [List.getElem?_toArray, List.getElem?_cons_zero, List.getElem?_cons_succ]) <;> rfl) (by kernel_rfl) (by kernel_rfl) (by kernel_rfl) ?hq14 (Or.inl ⟨by rfl, ?hy14⟩) (by assumption) ?_
      case hq14 => exact fun _ _ _ h => h
      case hy14 => ((intro w hSw; (try dsimp only at hSw); go_simp) <;> (with_reducible rfl))
      (try simp only [Act.put, List.setIfInBounds_toArray, List.set_cons_zero, List.set_cons_succ])
      refine wpAnyH_take (i := 15) (v := ?vv15) (by (simp only [List.getElem?_toArray, List.getElem?_cons_zero, List.getElem?_cons_succ]) <;> rfl) (by kernel_rfl) (by kernel_rfl) (by kernel_rfl) ?hq15 (Or.inl ⟨by rfl, ?hy15⟩) (by assumption) ?_
      case hq15 => exact fun _ _ _ h => h
      case hy15 => ((intro w hSw; (try dsimp only at hSw); go_simp) <;> (with_reducible rfl))
      (try simp only [Act.put, List.setIfInBounds_toArray, List.set_cons_zero, List.set_cons_succ])
      refine wpAnyH_take (i := 16) (v := ?vv16) (by (simp only [List.getElem?_toArray, List.getElem?_cons_zero, List.getElem?_cons_succ]) <;> rfl) (by kernel_rfl) (by kernel_rfl) (by kernel_rfl) ?hq16 (Or.inl ⟨by rfl, ?hy16⟩) (by assumption) ?_
      case hq16 => exact fun _ _ _ h => h
      case hy16 => ((intro w hSw; (try dsimp only at hSw); go_simp) <;> (with_reducible rfl))
      (try simp only [Act.put, List.setIfInBounds_toArray, List.set_cons_zero, List.set_cons_succ])
      refine wpAnyH_take (i := 17) (v := ?vv17) (by (simp only [List.getElem?_toArray, List.getElem?_cons_zero, List.getElem?_cons_succ]) <;> rfl) (by kernel_rfl) (by kernel_rfl) (by kernel_rfl) ?hq17 (Or.inl ⟨by rfl, ?hy17⟩) (by assumption) ?_
      case hq17 => exact fun _ _ _ h => h
      case hy17 => ((intro w hSw; (try dsimp only at hSw); go_simp) <;> (with_reducible rfl))
      (try simp only [Act.put, List.setIfInBounds_toArray, List.set_cons_zero, List.set_cons_succ])
      refine wpAnyH_take (i := 18) (v := ?vv18) (by (simp only [List.getElem?_toArray, List.getElem?_cons_zero, List.getElem?_cons_succ]) <;> rfl) (by kernel_rfl) (by kernel_rfl) (by kernel_rfl) ?hq18 (Or.inl ⟨by rfl, ?hy18⟩) (by assumption) ?_
      case hq18 => exact fun _ _ _ h => h
      case hy18 => ((intro w hSw; (try dsimp only at hSw); go_simp) <;> (with_reducible rfl))
      (try simp only [Act.put, List.setIfInBounds_toArray, List.set_cons_zero, List.set_cons_succ])
      refine wpAnyH_take (i := 19) (v := ?vv19) (by (simp only [List.getElem?_toArray, List.getElem?_cons_zero, List.getElem?_cons_succ]) <;> rfl) (by kernel_rfl) (by kernel_rfl) (by kernel_rfl) ?hq19 (Or.inl ⟨by rfl, ?hy19⟩) (by assumption) ?_
      case hq19 => exact fun _ _ _ h => h
      case hy19 => ((intro w hSw; (try dsimp only at hSw); go_simp) <;> (with_reducible rfl))
      (try simp only [Act.put, List.setIfInBounds_toArray, List.set_cons_zero, List.set_cons_succ])
      refine wpAnyH_take (i := 20) (v := ?vv20) (by (simp only [List.getElem?_toArray, List.getElem?_cons_zero, List.getElem?_cons_succ]) <;> rfl) (by kernel_rfl) (by kernel_rfl) (by kernel_rfl) ?hq20 (Or.inl ⟨by rfl, ?hy20⟩) (by assumption) ?_
      case hq20 => exact fun _ _ _ h => h
      case hy20 => ((intro w hSw; (try dsimp only at hSw); go_simp) <;> (with_reducible rfl))
      (try simp only [Act.put, List.setIfInBounds_toArray, List.set_cons_zero, List.set_cons_succ])
      refine wpAnyH_ready (rs := [21]) (by kernel_rfl) (by simp) ?_
      refine AllReadyH.cons (by (simp only [List.getElem?_toArray, List.getElem?_cons_zero, List.getElem?_cons_succ]) <;> rfl) (fun K hK => ?_) AllReadyH.nil
      go_simp
      (go_at_call 23; (with_reducible refine (pw_same (Hp5.out.next bb) (Hp6.out.next bb)).mono ?_); rintro e wz ⟨rfl, hb⟩; replace bb := bl_trans bb hb; clear hb)
      (try go_wp2_with fail)
      refine hK.out _ _ ?_ (fun hHeld => ?_)
      · (try dsimp only)
        with_reducible exact SS.out _ bb
      (try clear hK K)
      (try simp only [Act.put, List.setIfInBounds_toArray, List.set_cons_zero, List.set_cons_succ])
      refine wpAnyH_take (i := 22) (v := ?vv22) (by (simp only [List.getElem?_toArray, List.getElem?_cons_zero, List.getElem?_cons_succ]) <;> rfl) (by kernel_rfl) (by kernel_rfl) (by kernel_rfl) ?hq22 (Or.inl ⟨by rfl, ?hy22⟩) (by assumption) ?_
      case hq22 => exact fun _ _ _ h => h
      case hy22 => ((intro w hSw; (try dsimp only at hSw); go_simp) <;> (with_reducible rfl))
      (try simp only [Act.put, List.setIfInBounds_toArray, List.set_cons_zero, List.set_cons_succ])
      refine wpAnyH_take (i := 23) (v := ?vv23) (by (simp only [List.getElem?_toArray, List.getElem?_cons_zero, List.getElem?_cons_succ]) <;> rfl) (by kernel_rfl) (by kernel_rfl) (by kernel_rfl) ?hq23 (Or.inl ⟨by rfl, ?hy23⟩) (by assumption) ?_
      case hq23 => exact fun _ _ _ h => h
      case hy23 => ((intro w hSw; (try dsimp only at hSw); go_simp) <;> (with_reducible rfl))
      (try simp only [Act.put, List.setIfInBounds_toArray, List.set_cons_zero, List.set_cons_succ])
      refine wpAnyH_take (i := 24) (v := ?vv24) (by (simp only [List.getElem?_toArray, List.getElem?_cons_zero, List.getElem?_cons_succ]) <;> rfl) (by kernel_rfl) (by kernel_rfl) (by kernel_rfl) ?hq24 (Or.inl ⟨by rfl, ?hy24⟩) (by assumption) ?_
      case hq24 => exact fun _ _ _ h => h
      case hy24 => ((intro w hSw; (try dsimp only at hSw); go_simp) <;> (with_reducible rfl))
      (try simp only [Act.put, List.setIfInBounds_toArray, List.set_cons_zero, List.set_cons_succ])
      refine wpAnyH_take (i := 25) (v := ?vv25) (by (simp only [List.getElem?_toArray, List.getElem?_cons_zero, List.getElem?_cons_succ]) <;> rfl) (by kernel_rfl) (by kernel_rfl) (by kernel_rfl) ?hq25 (Or.inl ⟨by rfl, ?hy25⟩) (by assumption) ?_
      case hq25 => exact fun _ _ _ h => h
      case hy25 => ((intro w hSw; (try dsimp only at hSw); go_simp) <;> (with_reducible rfl))
      (try simp only [Act.put, List.setIfInBounds_toArray, List.set_cons_zero, List.set_cons_succ])
      refine wpAnyH_take (i := 26) (v := ?vv26) (by (simp only [List.getElem?_toArray, List.getElem?_cons_zero, List.getElem?_cons_succ]) <;> rfl) (by kernel_rfl) (by kernel_rfl) (by kernel_rfl) ?hq26 (Or.inl ⟨by rfl, ?hy26⟩) (by assumption) ?_
      case hq26 => exact fun _ _ _ h => h
      case hy26 => ((intro w hSw; (try dsimp only at hSw); go_simp) <;> (with_reducible rfl))
      (try simp only [Act.put, List.setIfInBounds_toArray, List.set_cons_zero, List.set_cons_succ])
      refine wpAnyH_take (i := 27) (v := ?vv27) (by (simp only [List.getElem?_toArray, List.getElem?_cons_zero, List.getElem?_cons_succ]) <;> rfl) (by kernel_rfl) (by kernel_rfl) (by kernel_rfl) ?hq27 (Or.inl ⟨by rfl, ?hy27⟩) (by assumption) ?_
      case hq27 => exact fun _ _ _ h => h
      case hy27 => ((intro w hSw; (try dsimp only at hSw); go_simp) <;> (with_reducible rfl))
      (try simp only [Act.put, List.setIfInBounds_toArray, List.set_cons_zero, List.set_cons_succ])
      refine wpAnyH_take (i := 28) (v := ?vv28) (by (simp only [List.getElem?_toArray, List.getElem?_cons_zero, List.getElem?_cons_succ]) <;> rfl) (by kernel_rfl) (by kernel_rfl) (by kernel_rfl) ?hq28 (Or.inl ⟨by rfl, ?hy28⟩) (by assumption) ?_
      case hq28 => exact fun _ _ _ h => h
      case hy28 => ((intro w hSw; (try dsimp only at hSw); go_simp) <;> (with_reducible rfl))
      (try simp only [Act.put, List.setIfInBounds_toArray, List.set_cons_zero, List.set_cons_succ])
      refine wpAnyH_take (i := 29) (v := ?vv29) (by (simp only [List.getElem?_toArray, List.getElem?_cons_zero, List.getElem?_cons_succ]) <;> rfl) (by kernel_rfl) (by kernel_rfl) (by kernel_rfl) ?hq29 (Or.inl ⟨by rfl, ?hy29⟩) (by assumption) ?_
      case hq29 => exact fun _ _ _ h => h
      case hy29 => ((intro w hSw; (try dsimp only at hSw); go_simp) <;> (with_reducible rfl))
      (try simp only [Act.put, List.setIfInBounds_toArray, List.set_cons_zero, List.set_cons_succ])
      refine wpAnyH_take (i := 30) (v := ?vv30) (by (simp only [List.getElem?_toArray, List.getElem?_cons_zero, List.getElem?_cons_succ]) <;> rfl) (by kernel_rfl) (by kernel_rfl) (by kernel_rfl) ?hq30 (Or.inl ⟨by rfl, ?hy30⟩) (by assumption) ?_
      case hq30 => exact fun _ _ _ h => h
      case hy30 => ((intro w hSw; (try dsimp only at hSw); go_simp) <;> (with_reducible rfl))
      (try simp only [Act.put, List.setIfInBounds_toArray, List.set_cons_zero, List.set_cons_succ])
      refine wpAnyH_ready (rs := [31]) (by kernel_rfl) (by simp) ?_
      refine AllReadyH.cons (by (simp only [List.getElem?_toArray, List.getElem?_cons_zero, List.getElem?_cons_succ]) <;> rfl) (fun K hK => ?_) AllReadyH.nil
      go_simp
      (go_at_call 24; (with_reducible refine (nw_same (Hp7.out.next bb) (Hv.out.next bb)).mono ?_); rintro e wz ⟨rfl, hb⟩; replace bb := bl_trans bb hb; clear hb)
      (try go_wp2_with fail)
      refine hK.out _ _ ?_ (fun hHeld => ?_)
      · (try dsimp only)
        with_reducible exact SS.out _ bb
      (try clear hK K)
      (try simp only [Act.put, List.setIfInBounds_toArray, List.set_cons_zero, List.set_cons_succ])
      as_aux_lemma =>
        refine wpAnyH_take (i := 32) (v := ?vv32) (by (simp only [List.getElem?_toArray, List.getElem?_cons_zero, List.getElem?_cons_succ]) <;> rfl) (by kernel_rfl) (by kernel_rfl) (by kernel_rfl) ?hq32 (Or.inl ⟨by rfl, ?hy32⟩) (by assumption) ?_
        case hq32 => exact fun _ _ _ h => h
        case hy32 => ((intro w hSw; (try dsimp only at hSw); go_simp) <;> (with_reducible rfl))
        (try simp only [Act.put, List.setIfInBounds_toArray, List.set_cons_zero, List.set_cons_succ])
        refine wpAnyH_take (i := 33) (v := ?vv33) (by (simp only [List.getElem?_toArray, List.getElem?_cons_zero, List.getElem?_cons_succ]) <;> rfl) (by kernel_rfl) (by kernel_rfl) (by kernel_rfl) ?hq33 (Or.inl ⟨by rfl, ?hy33⟩) (by assumption) ?_
        case hq33 => exact fun _ _ _ h => h
        case hy33 => ((intro w hSw; (try dsimp only at hSw); go_simp) <;> (with_reducible rfl))
        (try simp only [Act.put, List.setIfInBounds_toArray, List.set_cons_zero, List.set_cons_succ])
        refine wpAnyH_take (i := 34) (v := ?vv34) (by (simp only [List.getElem?_toArray, List.getElem?_cons_zero, List.getElem?_cons_succ]) <;> rfl) (by kernel_rfl) (by kernel_rfl) (by kernel_rfl) ?hq34 (Or.inl ⟨by rfl, ?hy34⟩) (by assumption) ?_
        case hq34 => exact fun _ _ _ h => h
        case hy34 => ((intro w hSw; (try dsimp only at hSw); go_simp) <;> (with_reducible rfl))
        (try simp only [Act.put, List.setIfInBounds_toArray, List.set_cons_zero, List.set_cons_succ])
        refine wpAnyH_take (i := 35) (v := ?vv35) (by (simp only [List.getElem?_toArray, List.getElem?_cons_zero, List.getElem?_cons_succ]) <;> rfl) (by kernel_rfl) (by kernel_rfl) (by kernel_rfl) ?hq35 (Or.inl ⟨by rfl, ?hy35⟩) (by assumption) ?_
        case hq35 => exact fun _ _ _ h => h
        case hy35 => ((intro w hSw; (try dsimp only at hSw); go_simp) <;> (with_reducible rfl))
        (try simp only [Act.put, List.setIfInBounds_toArray, List.set_cons_zero, List.set_cons_succ])
        refine wpAnyH_take (i := 36) (v := ?vv36) (by (simp only [List.getElem?_toArray, List.getElem?_cons_zero, List.getElem?_cons_succ]) <;> rfl) (by kernel_rfl) (by kernel_rfl) (by kernel_rfl) ?hq36 (Or.inl ⟨by rfl, ?hy36⟩) (by assumption) ?_
        case hq36 => exact fun _ _ _ h => h
        case hy36 => ((intro w hSw; (try dsimp only at hSw); go_simp) <;> (with_reducible rfl))
        (try simp only [Act.put, List.setIfInBounds_toArray, List.set_cons_zero, List.set_cons_succ])
        refine wpAnyH_take (i := 37) (v := ?vv37) (by (simp only [List.getElem?_toArray, List.getElem?_cons_zero, List.getElem?_cons_succ]) <;> rfl) (by kernel_rfl) (by kernel_rfl) (by kernel_rfl) ?hq37 (Or.inl ⟨by rfl, ?hy37⟩) (by assumption) ?_
        case hq37 => exact fun _ _ _ h => h
        case hy37 => ((intro w hSw; (try dsimp only at hSw); go_simp) <;> (with_reducible rfl))
        (try simp only [Act.put, List.setIfInBounds_toArray, List.set_cons_zero, List.set_cons_succ])
        refine wpAnyH_take (i := 38) (v := ?vv38) (by (simp only [List.getElem?_toArray, List.getElem?_cons_zero, List.getElem?_cons_succ]) <;> rfl) (by kernel_rfl) (by kernel_rfl) (by kernel_rfl) ?hq38 (Or.inl ⟨by rfl, ?hy38⟩) (by assumption) ?_
        case hq38 => exact fun _ _ _ h => h
        case hy38 => ((intro w hSw; (try dsimp only at hSw); go_simp) <;> (with_reducible rfl))
        (try simp only [Act.put, List.setIfInBounds_toArray, List.set_cons_zero, List.set_cons_succ])
        refine wpAnyH_take (i := 39) (v := ?vv39) (by (simp only [List.getElem?_toArray, List.getElem?_cons_zero, List.getElem?_cons_succ]) <;> rfl) (by kernel_rfl) (by kernel_rfl) (by kernel_rfl) ?hq39 (Or.inl ⟨by rfl, ?hy39⟩) (by assumption) ?_
        case hq39 => exact fun _ _ _ h => h
        case hy39 => ((intro w hSw; (try dsimp only at hSw); go_simp) <;> (with_reducible rfl))
        (try simp only [Act.put, List.setIfInBounds_toArray, List.set_cons_zero, List.set_cons_succ])
        refine wpAnyH_take (i := 41) (v := ?vv41) (by (simp only [List.getElem?_toArray, List.getElem?_cons_zero, List.getElem?_cons_succ]) <;> rfl) (by kernel_rfl) (by kernel_rfl) (by kernel_rfl) ?hq41 (Or.inl ⟨by rfl, ?hy41⟩) (by assumption) ?_
        case hq41 => exact fun _ _ _ h => h
        case hy41 => ((intro w hSw; (try dsimp only at hSw); go_simp) <;> (with_reducible rfl))
        (try simp only [Act.put, List.setIfInBounds_toArray, List.set_cons_zero, List.set_cons_succ])
        refine wpAnyH_ready (rs := [40]) (by kernel_rfl) (by simp) ?_
        refine AllReadyH.cons (by (simp only [List.getElem?_toArray, List.getElem?_cons_zero, List.getElem?_cons_succ]) <;> rfl) (fun K hK => ?_) AllReadyH.nil
        go_simp
        (go_at_call 25; (with_reducible refine (L.out.a5 _ (bl_trans bw bb)).mono ?_); rintro e wz ⟨rfl, hb⟩; replace bb := bl_trans bb hb; clear hb)
        (try go_wp2_with fail)
        refine hK.out _ _ ?_ (fun hHeld => ?_)
        · (try dsimp only)
          with_reducible exact SS.out _ bb
        (try clear hK K)
        (try simp only [Act.put, List.setIfInBounds_toArray, List.set_cons_zero, List.set_cons_succ])
        refine wpAnyH_ready (rs := [42]) (by kernel_rfl) (by simp) ?_
        refine AllReadyH.cons (by (simp only [List.getElem?_toArray, List.getElem?_cons_zero, List.getElem?_cons_succ]) <;> rfl) (fun K hK => ?_) AllReadyH.nil
        go_simp
        (go_at_call 26; (with_reducible refine (L.out.r5 _ (bl_trans bw bb)).mono ?_); rintro e wz ⟨rfl, hb⟩; replace bb := bl_trans bb hb; clear hb)
        (try go_wp2_with fail)
        refine hK.out _ _ ?_ (fun hHeld => ?_)
        · (try dsimp only)
          with_reducible exact SS.out _ bb
        (try clear hK K)
        (try simp only [Act.put, List.setIfInBounds_toArray, List.set_cons_zero, List.set_cons_succ])
        as_aux_lemma =>
          refine wpAnyH_take (i := 43) (v := ?vv43) (by (simp only [List.getElem?_toArray, List.getElem?_cons_zero, List.getElem?_cons_succ]) <;> rfl) (by kernel_rfl) (by kernel_rfl) (by kernel_rfl) ?hq43 (Or.inl ⟨by rfl, ?hy43⟩) (by assumption) ?_
          case hq43 => exact fun _ _ _ h => h
          case hy43 => ((intro w hSw; (try dsimp only at hSw); go_simp) <;> (with_reducible rfl))
          (try simp only [Act.put, List.setIfInBounds_toArray, List.set_cons_zero, List.set_cons_succ])
          refine wpAnyH_take (i := 44) (v := ?vv44) (by (simp only [List.getElem?_toArray, List.getElem?_cons_zero, List.getElem?_cons_succ]) <;> rfl) (by kernel_rfl) (by kernel_rfl) (by kernel_rfl) ?hq44 (Or.inl ⟨by rfl, ?hy44⟩) (by assumption) ?_
          case hq44 => exact fun _ _ _ h => h
          case hy44 => ((intro w hSw; (try dsimp only at hSw); go_simp) <;> (with_reducible rfl))
          (try simp only [Act.put, List.setIfInBounds_toArray, List.set_cons_zero, List.set_cons_succ])
          refine wpAnyH_take (i := 45) (v := ?vv45) (by (simp only [List.getElem?_toArray, List.getElem?_cons_zero, List.getElem?_cons_succ]) <;> rfl) (by kernel_rfl) (by kernel_rfl) (by kernel_rfl) ?hq45 (Or.inl ⟨by rfl, ?hy45⟩) (by assumption) ?_
          case hq45 => exact fun _ _ _ h => h
          case hy45 => ((intro w hSw; (try dsimp only at hSw); go_simp) <;> (with_reducible rfl))
          (try simp only [Act.put, List.setIfInBounds_toArray, List.set_cons_zero, List.set_cons_succ])
          refine wpAnyH_take (i := 46) (v := ?vv46) (by (simp only [List.getElem?_toArray, List.getElem?_cons_zero, List.getElem?_cons_succ]) <;> rfl) (by kernel_rfl) (by kernel_rfl) (by kernel_rfl) ?hq46 (Or.inl ⟨by rfl, ?hy46⟩) (by assumption) ?_
          case hq46 => exact fun _ _ _ h => h
          case hy46 => ((intro w hSw; (try dsimp only at hSw); go_simp) <;> (with_reducible rfl))
          (try simp only [Act.put, List.setIfInBounds_toArray, List.set_cons_zero, List.set_cons_succ])
          refine wpAnyH_take (i := 47) (v := ?vv47) (by (simp only [List.getElem?_toArray, List.getElem?_cons_zero, List.getElem?_cons_succ]) <;> rfl) (by kernel_rfl) (by kernel_rfl) (by kernel_rfl) ?hq47 (Or.inl ⟨by rfl, ?hy47⟩) (by assumption) ?_
          case hq47 => exact fun _ _ _ h => h
          case hy47 => ((intro w hSw; (try dsimp only at hSw); go_simp) <;> (with_reducible rfl))
          (try simp only [Act.put, List.setIfInBounds_toArray, List.set_cons_zero, List.set_cons_succ])
          refine wpAnyH_take (i := 49) (v := ?vv49) (by (simp only [List.getElem?_toArray, List.getElem?_cons_zero, List.getElem?_cons_succ]) <;> rfl) (by kernel_rfl) (by kernel_rfl) (by kernel_rfl) ?hq49 (Or.inl ⟨by rfl, ?hy49⟩) (by assumption) ?_
          case hq49 => exact fun _ _ _ h => h
          case hy49 => ((intro w hSw; (try dsimp only at hSw); go_simp) <;> (with_reducible rfl))
          (try simp only [Act.put, List.setIfInBounds_toArray, List.set_cons_zero, List.set_cons_succ])
          refine wpAnyH_take (i := 50) (v := ?vv50) (by (simp only [List.getElem?_toArray, List.getElem?_cons_zero, List.getElem?_cons_succ]) <;> rfl) (by kernel_rfl) (by kernel_rfl) (by kernel_rfl) ?hq50 (Or.inl ⟨by rfl, ?hy50⟩) (by assumption) ?_
          case hq50 => exact fun _ _ _ h => h
          case hy50 => ((intro w hSw; (try dsimp only at hSw); go_simp) <;> (with_reducible rfl))
          (try simp only [Act.put, List.setIfInBounds_toArray, List.set_cons_zero, List.set_cons_succ])
          refine wpAnyH_ready (rs := [48]) (by kernel_rfl) (by simp) ?_
          refine AllReadyH.cons (by (simp only [List.getElem?_toArray, List.getElem?_cons_zero, List.getElem?_cons_succ]) <;> rfl) (fun K hK => ?_) AllReadyH.nil
          go_simp
          (go_at_call 27; (with_reducible refine (L.out.a7 _ (bl_trans bw bb)).mono ?_); rintro e wz ⟨rx, rfl, rq, rk, ra, hb⟩; replace bb := bl_trans bb hb; clear hb)
          (try go_wp2_with fail)
          refine hK.out _ _ ?_ (fun hHeld => ?_)
          · (try dsimp only)
            with_reducible exact SS.out _ bb
          (try clear hK K)
          (try simp only [Act.put, List.setIfInBounds_toArray, List.set_cons_zero, List.set_cons_succ])
          refine wpAnyH_ready (rs := [51]) (by kernel_rfl) (by simp) ?_
          refine AllReadyH.cons (by (simp only [List.getElem?_toArray, List.getElem?_cons_zero, List.getElem?_cons_succ]) <;> rfl) (fun K hK => ?_) AllReadyH.nil
          go_simp
          (go_at_call 28; (with_reducible refine (L.out.r7 _ (bl_trans bw bb)).mono ?_); rintro e wz ⟨ry, rfl, sq, sk, sa, hb⟩; have RS := hide (rat_same rk sk (ra.next hb) sa (rq.trans sq.symm)); replace bb := bl_trans bb hb; clear hb rq rk ra sq sk sa)
          (try go_wp2_with fail)
          refine hK.out _ _ ?_ (fun hHeld => ?_)
          · (try dsimp only)
            with_reducible exact SS.out _ bb
          (try clear hK K)
          (try simp only [Act.put, List.setIfInBounds_toArray, List.set_cons_zero, List.set_cons_succ])
          as_aux_lemma =>
            refine wpAnyH_ready (rs := [52]) (by kernel_rfl) (by simp) ?_
            refine AllReadyH.cons (by (simp only [List.getElem?_toArray, List.getElem?_cons_zero, List.getElem?_cons_succ]) <;> rfl) (fun K hK => ?_) AllReadyH.nil
            go_simp
            (go_at_call 24; (with_reducible refine (RS.out).mono ?_); rintro e wz ⟨rfl, hb⟩; replace bb := bl_trans bb hb; clear hb RS)
            (try go_wp2_with fail)
            refine hK.out _ _ ?_ (fun hHeld => ?_)
            · (try dsimp only)
              with_reducible exact SS.out _ bb
            (try clear hK K)
            (try simp only [Act.put, List.setIfInBounds_toArray, List.set_cons_zero, List.set_cons_succ])
            refine wpAnyH_take (i := 53) (v := ?vv53) (by (simp only [List.getElem?_toArray, List.getElem?_cons_zero, List.getElem?_cons_succ]) <;> rfl) (by kernel_rfl) (by kernel_rfl) (by kernel_rfl) ?hq53 (Or.inl ⟨by rfl, ?hy53⟩) (by assumption) ?_
            case hq53 => exact fun _ _ _ h => h
            case hy53 => ((intro w hSw; (try dsimp only at hSw); go_simp) <;> (with_reducible rfl))
            (try simp only [Act.put, List.setIfInBounds_toArray, List.set_cons_zero, List.set_cons_succ])
            refine wpAnyH_take (i := 54) (v := ?vv54) (by (simp only [List.getElem?_toArray, List.getElem?_cons_zero, List.getElem?_cons_succ]) <;> rfl) (by kernel_rfl) (by kernel_rfl) (by kernel_rfl) ?hq54 (Or.inl ⟨by rfl, ?hy54⟩) (by assumption) ?_
            case hq54 => exact fun _ _ _ h => h
            case hy54 => ((intro w hSw; (try dsimp only at hSw); go_simp) <;> (with_reducible rfl))
            (try simp only [Act.put, List.setIfInBounds_toArray, List.set_cons_zero, List.set_cons_succ])
            refine wpAnyH_take (i := 55) (v := ?vv55) (by (simp only [List.getElem?_toArray, List.getElem?_cons_zero, List.getElem?_cons_succ]) <;> rfl) (by kernel_rfl) (by kernel_rfl) (by kernel_rfl) ?hq55 (Or.inl ⟨by rfl, ?hy55⟩) (by assumption) ?_
            case hq55 => exact fun _ _ _ h => h
            case hy55 => ((intro w hSw; (try dsimp only at hSw); go_simp) <;> (with_reducible rfl))
            (try simp only [Act.put, List.setIfInBounds_toArray, List.set_cons_zero, List.set_cons_succ])
            refine wpAnyH_take (i := 56) (v := ?vv56) (by (simp only [List.getElem?_toArray, List.getElem?_cons_zero, List.getElem?_cons_succ]) <;> rfl) (by kernel_rfl) (by kernel_rfl) (by kernel_rfl) ?hq56 (Or.inl ⟨by rfl, ?hy56⟩) (by assumption) ?_
            case hq56 => exact fun _ _ _ h => h
            case hy56 => ((intro w hSw; (try dsimp only at hSw); go_simp) <;> (with_reducible rfl))
            (try simp only [Act.put, List.setIfInBounds_toArray, List.set_cons_zero, List.set_cons_succ])
            refine wpAnyH_take (i := 58) (v := ?vv58) (by (simp only [List.getElem?_toArray, List.getElem?_cons_zero, List.getElem?_cons_succ]) <;> rfl) (by kernel_rfl) (by kernel_rfl) (by kernel_rfl) ?hq58 (Or.inl ⟨by rfl, ?hy58⟩) (by assumption) ?_
            case hq58 => exact fun _ _ _ h => h
            case hy58 => ((intro w hSw; (try dsimp only at hSw); go_simp) <;> (with_reducible rfl))
            (try simp only [Act.put, List.setIfInBounds_toArray, List.set_cons_zero, List.set_cons_succ])
            refine wpAnyH_take (i := 59) (v := ?vv59) (by (simp only [List.getElem?_toArray, List.getElem?_cons_zero, List.getElem?_cons_succ]) <;> rfl) (by kernel_rfl) (by kernel_rfl) (by kernel_rfl) ?hq59 (Or.inl ⟨by rfl, ?hy59⟩) (by assumption) ?_
            case hq59 => exact fun _ _ _ h => h
            case hy59 => ((intro w hSw; (try dsimp only at hSw); go_simp) <;> (with_reducible rfl))
            (try simp only [Act.put, List.setIfInBounds_toArray, List.set_cons_zero, List.set_cons_succ])
            refine wpAnyH_ready (rs := [57]) (by kernel_rfl) (by simp) ?_
            refine AllReadyH.cons (by (simp only [List.getElem?_toArray, List.getElem?_cons_zero, List.getElem?_cons_succ]) <;> rfl) (fun K hK => ?_) AllReadyH.nil
            go_simp
            (go_at_call 29; (with_reducible refine (L.out.a6 _ (bl_trans bw bb)).mono ?_); rintro e wz ⟨rfl, hb⟩; replace bb := bl_trans bb hb; clear hb)
            (try go_wp2_with fail)
            refine hK.out _ _ ?_ (fun hHeld => ?_)
            · (try dsimp only)
              with_reducible exact SS.out _ bb
            (try clear hK K)
            (try simp only [Act.put, List.setIfInBounds_toArray, List.set_cons_zero, List.set_cons_succ])
            as_aux_lemma =>
              refine wpAnyH_ready (rs := [60]) (by kernel_rfl) (by simp) ?_
              refine AllReadyH.cons (by (simp only [List.getElem?_toArray, List.getElem?_cons_zero, List.getElem?_cons_succ]) <;> rfl) (fun K hK => ?_) AllReadyH.nil
              go_simp
              (go_at_call 23; (with_reducible refine (L.out.r6 _ (bl_trans bw bb)).mono ?_); rintro e wz ⟨rfl, hb⟩; replace bb := bl_trans bb hb; clear hb)
              (try go_wp2_with fail)
              refine hK.out _ _ ?_ (fun hHeld => ?_)
              · (try dsimp only)
                with_reducible exact SS.out _ bb
              (try clear hK K)
              (try simp only [Act.put, List.setIfInBounds_toArray, List.set_cons_zero, List.set_cons_succ])
              refine wpAnyH_take (i := 61) (v := ?vv61) (by (simp only [List.getElem?_toArray, List.getElem?_cons_zero, List.getElem?_cons_succ]) <;> rfl) (by kernel_rfl) (by kernel_rfl) (by kernel_rfl) ?hq61 (Or.inl ⟨by rfl, ?hy61⟩) (by assumption) ?_
              case hq61 => exact fun _ _ _ h => h
              case hy61 => ((intro w hSw; (try dsimp only at hSw); go_simp) <;> (with_reducible rfl))
              (try simp only [Act.put, List.setIfInBounds_toArray, List.set_cons_zero, List.set_cons_succ])
              refine wpAnyH_take (i := 62) (v := ?vv62) (by (simp only [List.getElem?_toArray, List.getElem?_cons_zero, List.getElem?_cons_succ]) <;> rfl) (by kernel_rfl) (by kernel_rfl) (by kernel_rfl) ?hq62 (Or.inl ⟨by rfl, ?hy62⟩) (by assumption) ?_
              case hq62 => exact fun _ _ _ h => h
              case hy62 => ((intro w hSw; (try dsimp only at hSw); go_simp) <;> (with_reducible rfl))
              (try simp only [Act.put, List.setIfInBounds_toArray, List.set_cons_zero, List.set_cons_succ])
              refine wpAnyH_take (i := 63) (v := ?vv63) (by (simp only [List.getElem?_toArray, List.getElem?_cons_zero, List.getElem?_cons_succ]) <;> rfl) (by kernel_rfl) (by kernel_rfl) (by kernel_rfl) ?hq63 (Or.inl ⟨by rfl, ?hy63⟩) (by assumption) ?_
              case hq63 => exact fun _ _ _ h => h
              case hy63 => ((intro w hSw; (try dsimp only at hSw); go_simp) <;> (with_reducible rfl))
              (try simp only [Act.put, List.setIfInBounds_toArray, List.set_cons_zero, List.set_cons_succ])
              refine wpAnyH_ready (rs := [64]) (by kernel_rfl) (by simp) ?_
              refine AllReadyH.cons (by (simp only [List.getElem?_toArray, List.getElem?_cons_zero, List.getElem?_cons_succ]) <;> rfl) (fun K hK => ?_) AllReadyH.nil
              go_simp
              (go_at_call 11; (with_reducible refine (AW.out _).mono ?_); rintro e wz ⟨rfl, hb⟩; replace bb := bl_trans bb hb; clear hb)
              (try go_wp2_with fail)
              refine hK.out _ _ ?_ (fun hHeld => ?_)
              · (try dsimp only)
                with_reducible exact SS.out _ bb
              (try clear hK K)
              (try simp only [Act.put, List.setIfInBounds_toArray, List.set_cons_zero, List.set_cons_succ])
              refine wpAnyH_take (i := 65) (v := ?vv65) (by (simp only [List.getElem?_toArray, List.getElem?_cons_zero, List.getElem?_cons_succ]) <;> rfl) (by kernel_rfl) (by kernel_rfl) (by kernel_rfl) ?hq65 (Or.inl ⟨by rfl, ?hy65⟩) (by assumption) ?_
              case hq65 => exact fun _ _ _ h => h
              case hy65 => ((intro w hSw; (try dsimp only at hSw); go_simp) <;> (with_reducible rfl))
              (try simp only [Act.put, List.setIfInBounds_toArray, List.set_cons_zero, List.set_cons_succ])
              refine wpAnyH_take (i := 66) (v := ?vv66) (by (simp only [List.getElem?_toArray, List.getElem?_cons_zero, List.getElem?_cons_succ]) <;> rfl) (by kernel_rfl) (by kernel_rfl) (by kernel_rfl) ?hq66 (Or.inl ⟨by rfl, ?hy66⟩) (by assumption) ?_
              case hq66 => exact fun _ _ _ h => h
              case hy66 => ((intro w hSw; (try dsimp only at hSw); go_simp) <;> (with_reducible rfl))
              (try simp only [Act.put, List.setIfInBounds_toArray, List.set_cons_zero, List.set_cons_succ])
              refine wpAnyH_done (by kernel_rfl) ?_ _
              go_wp2_with fail
              go_ret
              exact ⟨rfl, bl_trans bw bb⟩
end Nt
end Go.Proofs.YtgimmmmpollkhaaGreat
