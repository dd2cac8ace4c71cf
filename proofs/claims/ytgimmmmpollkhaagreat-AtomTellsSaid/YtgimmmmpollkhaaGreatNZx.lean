
/-
  The law AtomTells.
-/
import Derived.Test.YtgimmmmpollkhaaGreatNZm
import Derived.Test.YtgimmmmpollkhaaGreatNZr
namespace Go.Proofs.YtgimmmmpollkhaaGreat

open Go.ChangeShapes Go.RowKit

namespace Nt
set_option maxRecDepth 100000
set_option linter.unusedSimpArgs false
set_option linter.unusedVariables false

def cnr (q : Rat) : Bool × List Nat × List Nat := (qs q, digs (qn q), digs (qd q))
theorem cnr_of {p : Pt} (h : p.Ok) : p.cn = cnr p.q := by
  unfold Pt.cn cnr
  rw [h.s.symm, h.x.symm, h.y.symm]
theorem rawr_of {l : List Pt} (h : ∀ p ∈ l, p.Ok) : l.map Pt.raw = (l.map Pt.qt).map fun x => (cnr x.1, x.2) := by
  rw [List.map_map]
  exact List.map_congr_left fun p hp => by
    show (p.cn, p.t) = (cnr p.q, p.t)
    rw [cnr_of (h p hp)]
theorem look_bnt {lb : List Pt} (h : ∀ p ∈ lb, p.ok = true → bnd 8 p.q) (t : Int) (ho : oOk (lookT lb) t = true) : bnd 8 (oq (lookT lb) t) := by
  induction lb with
  | nil =>
    have e : oq (lookT []) t = 0 := by
      show qmk false (val []) (val [1]) = 0
      decide +kernel
    rw [e]
    exact ⟨by decide +kernel, by decide +kernel⟩
  | cons p l ih =>
    unfold oOk lookT at ho
    unfold oq lookT
    by_cases e : p.t = t
    · rw [if_pos e] at ho ⊢; exact h p (by simp) ho
    · rw [if_neg e] at ho ⊢; exact ih (fun q hq => h q (by simp [hq])) ho
def RAo (w : World) (kd : Int) (M : List ((Bool × List Nat × List Nat) × Int)) (N : Bool × List Nat × List Nat) (z : Bool) (e : Ending) (w' : World) : Prop := ∃ (A : Option Addr) (k : Nat) (l : List Pt) (c : Pt), e = .returned (.tuple #[.agg #[.int .i64 kd, .slice A l.length k, .bool c.s, .slice c.A c.xs.length c.a, .slice c.B c.ys.length c.b, .int .i64 0, .int .i64 0], .bool z]) ∧ l.map Pt.raw = M ∧ c.cn = N ∧ Pl w' A l ∧ c.At w' ∧ (∀ p ∈ l, p.Few) ∧ c.Few ∧ l.length ≤ 1000000 ∧ Below w.heap.size w w'
theorem NtR.rao {w w' : World} {kd : Int} {L : List (Rat × Int)} {q : Rat} {e : Ending} (h : NtR w kd L q e w') (hn : L.length ≤ 1000000) : RAo w kd (L.map fun x => (cnr x.1, x.2)) (cnr q) true e w' := by
  obtain ⟨A, k, l, c, rfl, m, v, p, t, o, z, hb, _, _⟩ := h
  refine ⟨A, k, l, c, rfl, ?_, ?_, p, t, fun x hx => (o x hx).few, z.few, ?_, hb⟩
  · rw [rawr_of o, m]
  · rw [cnr_of z, v]
  · rw [← m, List.length_map] at hn; exact hn
theorem zero_rao {w w' : World} {e : Ending} (h : e = .returned (.tuple #[atomZ 0 0 0, .bool false]) ∧ Below w.heap.size w w') : RAo w 0 [] (false, [], []) false e w' :=
  ⟨none, 0, [], ⟨false, none, 0, [], none, 0, [], 0⟩, h.1, rfl, rfl, .inl rfl, ⟨.inl rfl, .inl rfl⟩, fun p hp => (by cases hp), p0Few, Nat.zero_le _, h.2⟩
theorem hoR_det (k : Int) (o : Tells) (L : List (Rat × Int)) (q : Rat) : ∃ (x : Bool) (z : Int), ∀ w e w', HoR w k o L q e w' → e = .returned (.tuple #[.bool x, .int .i64 z]) ∧ Below w.heap.size w w' := by
  by_cases h : L.all (fun x => oOk o x.2) = true
  · cases hv : valF q (valL o L) with
    | some v =>
      refine ⟨stB k v, 0, fun w e w' H => ⟨?_, H.1⟩⟩
      rcases H.2 with ⟨_, v', h1, h2⟩ | ⟨_, h1, _⟩ | ⟨h1, _⟩
      · rw [hv] at h1; injection h1 with h1; subst h1; exact h2
      · rw [hv] at h1; cases h1
      · rw [h] at h1; cases h1
    | none =>
      refine ⟨false, 4, fun w e w' H => ⟨?_, H.1⟩⟩
      rcases H.2 with ⟨_, v', h1, h2⟩ | ⟨_, _, h2⟩ | ⟨h1, _⟩
      · rw [hv] at h1; cases h1
      · exact h2
      · rw [h] at h1; cases h1
  · refine ⟨false, 1, fun w e w' H => ⟨?_, H.1⟩⟩
    rcases H.2 with ⟨h1, _⟩ | ⟨h1, _⟩ | ⟨_, h2⟩
    · exact absurd h1 h
    · exact absurd h1 h
    · exact h2
structure Ag (w : World) (A : Option Addr) (l : List Pt) (c : Pt) : Prop where
  hl : Pl w A l
  hc : c.At w
  fl : ∀ p ∈ l, p.Few
  fcap : ∀ p ∈ l, p.Cap
  fc : c.Few
  f8 : ∀ p ∈ l, p.few8 = true
  c8 : c.few8 = true
  n : l.length ≤ 10
section

variable {w : World} {A B : Option Addr} {l m : List Pt} {kc kd : Nat} {c d : Pt}
theorem Ag.good (h : Ag w A l c) {k a b : Int} (v : avB k l c a b = true) : a = 0 ∧ b = 0 ∧ pvB (-1) l = true ∧ (∀ p ∈ l, p.Ok) ∧ c.Ok ∧ small 8 (l.map Pt.qt) ∧ formB k (l.map Pt.qt) = true := by
  obtain ⟨e1, e2, e3, e4, e5⟩ := avB_ok v
  have ol := pvB_ok e3 h.fl
  exact ⟨e1, e2, e3, ol, ok_of h.fc e4, small_o ol h.f8, e5⟩
theorem not_pair (hp : Ag w A l c) (k : Int) (kc : Nat) (a b : Int) : ∃ kd M N z, (∀ W, Below w.heap.size w W → Calls Tryz.prog 36 #[atomV k A l.length kc c a b] W (RAo W kd M N z)) ∧ (∀ W, Below w.heap.size w W → Calls Tryz.prog 37 #[atomV k A l.length kc c a b] W (RAo W kd M N z)) := by
  have n1 := hp.n
  by_cases h : (oppB k && avB k l c a b) = true
  · rw [Bool.and_eq_true] at h
    obtain ⟨rfl, rfl, e3, ol, oc, sl, fo⟩ := hp.good h.2
    obtain ⟨m1, m2, _⟩ := not_form h.1 c.q fo (qt_fit ol) oc.f
    have hn : (fmL (oppK k) (scq' (-1) (l.map Pt.qt))).length ≤ 1000000 := by
      rw [m2]; unfold scq; rw [List.length_map, List.length_map]; omega
    exact ⟨_, _, _, _, fun W b => (not_ok k A l kc c W (hp.hl.next b) (hp.hc.next b) ol oc (by omega) h.1 h.2 (all_m1 (qt_fit ol)) (fit_mul_m1 oc.f) m1).mono fun e w' H => H.rao hn,
      fun W b => (rnot_ok k A l kc c W (hp.hl.next b) (hp.hc.next b) ol hp.fcap oc (by omega) h.1 h.2 (all_m1 (qt_fit ol)) (fit_mul_m1 oc.f) m1).mono fun e w' H => H.rao hn⟩
  · have h' := Bool.eq_false_iff.2 h
    exact ⟨_, _, _, _, fun W b_ => (not_no k A l kc c a b W (hp.hl.next b_) (hp.hc.next b_) hp.fl hp.fc (by omega) h').mono fun e w' H => zero_rao H,
      fun W b_ => (rnot_no k A l kc c a b W (hp.hl.next b_) (hp.hc.next b_) hp.fl hp.fcap hp.fc (by omega) h').mono fun e w' H => zero_rao H⟩
theorem triv_pair (hp : Ag w A l c) (k : Int) (kc : Nat) (a b : Int) : ∃ (x z : Bool), (∀ W, Below w.heap.size w W → Calls Tryz.prog 38 #[atomV k A l.length kc c a b] W fun e w' => e = .returned (.tuple #[.bool x, .bool z]) ∧ Below W.heap.size W w') ∧ (∀ W, Below w.heap.size w W → Calls Tryz.prog 39 #[atomV k A l.length kc c a b] W fun e w' => e = .returned (.tuple #[.bool x, .bool z]) ∧ Below W.heap.size W w') := by
  have n1 := hp.n
  exact ⟨_, _, fun W b_ => trivial_k k A l kc c a b W (hp.hl.next b_) (hp.hc.next b_) hp.fl hp.fc (by omega) _ rfl, fun W b_ => rtrivial_any k A l kc c a b W (hp.hl.next b_) (hp.hc.next b_) hp.fl hp.fcap hp.fc (by omega) _ rfl⟩
theorem valida_pair (hp : Ag w A l c) (k : Int) (kc : Nat) (a b : Int) : ∃ v, (∀ W, Below w.heap.size w W → Calls Tryz.prog 44 #[atomV k A l.length kc c a b] W fun e w' => e = .returned (.bool v) ∧ Below W.heap.size W w') ∧ (∀ W, Below w.heap.size w W → Calls Tryz.prog 45 #[atomV k A l.length kc c a b] W fun e w' => e = .returned (.bool v) ∧ Below W.heap.size W w') := by
  have n1 := hp.n
  exact ⟨_, fun W b_ => avalid_any k A l kc c a b W (hp.hl.next b_) (hp.hc.next b_) hp.fl hp.fc (by omega) _ rfl, fun W b_ => rvalida_any k A l kc c a b W (hp.hl.next b_) (hp.hc.next b_) hp.fl hp.fcap hp.fc (by omega) _ rfl⟩
theorem samea_pair (hp : Ag w A l c) (hq : Ag w B m d) (k k' : Int) (kc kd : Nat) (a b a' b' : Int) : ∃ v, (∀ W, Below w.heap.size w W → Calls Tryz.prog 47 #[atomV k A l.length kc c a b, atomV k' B m.length kd d a' b'] W fun e w' => e = .returned (.bool v) ∧ Below W.heap.size W w') ∧ (∀ W, Below w.heap.size w W → Calls Tryz.prog 46 #[atomV k A l.length kc c a b, atomV k' B m.length kd d a' b'] W fun e w' => e = .returned (.bool v) ∧ Below W.heap.size W w') := by
  have n1 := hp.n
  have n2 := hq.n
  exact ⟨_, fun W b_ => asame_r k k' A B l m kc kd c d a a' b b' W (hp.hl.next b_) (hq.hl.next b_) hp.fl hq.fl (hp.hc.next b_) (hq.hc.next b_) hp.fc hq.fc (by omega) (by omega) _ rfl, fun W b_ => rsamea_r k k' A B l m kc kd c d a a' b b' W (hp.hl.next b_) (hq.hl.next b_) hp.fl hq.fl (hp.hc.next b_) (hq.hc.next b_) hp.fc hq.fc (by omega) (by omega) _ rfl⟩
theorem holds_pair {C : Option Addr} {lb : List Pt} {kb : Nat} (hp : Ag w A l c) (hbl : Bl w C lb) (fb : ∀ p ∈ lb, p.Few) (b8 : ∀ p ∈ lb, p.few8 = true) (hn : lb.length ≤ 12) (g : Nat) (k : Int) (kc : Nat) (a b : Int) : ∃ (x : Bool) (z : Int), (∀ W, Below w.heap.size w W → W.cell? ⟨g, 0, none⟩ = some (.slice C lb.length kb) → Calls Tryz.prog 40 #[atomV k A l.length kc c a b, .func (.func 41) #[] #[.pointer (some ⟨g, 0, none⟩)]] W fun e w' => e = .returned (.tuple #[.bool x, .int .i64 z]) ∧ Below W.heap.size W w') ∧ (∀ W R cr, Below w.heap.size w W → Bl W R lb → Calls Tryz.prog 43 #[atomV k A l.length kc c a b, .slice R lb.length cr] W fun e w' => e = .returned (.tuple #[.bool x, .int .i64 z]) ∧ Below W.heap.size W w') := by
  have n1 := hp.n
  by_cases h : (sumK k && avB k l c a b) = true
  · rw [Bool.and_eq_true] at h
    obtain ⟨rfl, rfl, e3, ol, oc, sl, fo⟩ := hp.good h.2
    obtain ⟨x, z, H⟩ := hoR_det k (lookT lb) (l.map Pt.qt) c.q
    refine ⟨x, z, fun W b hg => (holds_ok k A l kc c _ _ (lookT lb) W (hp.hl.next b) (hp.hc.next b) ol oc (by omega) h.1 h.2 fun p _ W' b' => ?_).mono (H W), fun W R cr b hR => (rholds_ok k A R l lb kc cr c W (hp.hl.next b) (hp.hc.next b) ol hp.fcap oc (by omega) h.1 h.2 hR fb (by omega) fun p hp ho => ?_).mono (H W)⟩
    · exact told_any _ _ _ _ _ entersT9 fun W2 b2 => tellT9_any C lb kb g p.t W2 (hbl.next (bl_trans b (bl_trans b' b2))) fb (by omega) (cell_next (bl_trans b' b2) hg)
    · exact fitB_bnd (bnd_mul (sl p.qt (List.mem_map_of_mem hp)) (look_bnt (fun q hq hk => bnd_o (ok_of (fb q hq) hk) (b8 q hq)) p.t ho)) (by decide)
  · have h' := Bool.eq_false_iff.2 h
    exact ⟨_, _, fun W b_ hg => holds_no k A l kc c a b _ _ W (hp.hl.next b_) (hp.hc.next b_) hp.fl hp.fc (by omega) h',
      fun W R cr b_ hR => rholds_no k A R l kc lb.length cr c a b W (hp.hl.next b_) (hp.hc.next b_) hp.fl hp.fcap hp.fc (by omega) h'⟩
end
set_option maxHeartbeats 4000000 in
theorem alikeA_any (k : Int) (A : Option Addr) (l : List Pt) (kc : Nat) (c : Pt) (a b : Int) (w : World) (hl : Pl w A l) (hn : l.length ≤ 9223372036854775807) :
    Calls Tryz.prog 33 #[atomV k A l.length kc c a b] w (FewO w (l.length ≤ 10 ∧ (∀ p ∈ l, p.few8 = true) ∧ c.few8 = true)) := by
  have hP := hide (fun W (b : Below w.heap.size w W) => pfew_any A l kc c W (hl.next b) hn)
  have hb0 := hide (bl_al (.refl _ _) (.cells #[.int .i64 k, .slice A l.length kc, .bool c.s, .slice c.A c.xs.length c.a, .slice c.B c.ys.length c.b, .int .i64 a, .int .i64 b] 58) : Below w.heap.size w _)
  have hX := hide (C7.new (.int .i64 k) (.slice A l.length kc) (.bool c.s) (.slice c.A c.xs.length c.a) (.slice c.B c.ys.length c.b) (.int .i64 a) (.int .i64 b) 58 w)
  clear hl hn
  unfold atomV polyV at *
  obtain ⟨x0, x1, x2, x3, x4, x5, x6⟩ := hX.out
  go_enter Tryz.func33, Tryz.ntmps33
  go_wp2_with (first
    | (go_at_call 8; (with_reducible refine (hP.out _ hb0.out).mono ?_); rintro e w1 ⟨r, rfl, hb, h⟩; replace hb := hide (bl_trans hb0.out hb); replace h := hide h)
    | fail)
  go_ret
  exact ⟨r, rfl, hb.out, h.out⟩
def W3a (w : World) (ka ko a1 a2 o1 o2 : Int) (c d : Pt) (A B C : Option Addr) (n kc m kd b kb : Nat) : World := ((w.alloc (.cells #[.int .i64 ka, .slice A n kc, .bool c.s, .slice c.A c.xs.length c.a, .slice c.B c.ys.length c.b, .int .i64 a1, .int .i64 a2] 58)).alloc (.cells #[.int .i64 ko, .slice B m kd, .bool d.s, .slice d.A d.xs.length d.a, .slice d.B d.ys.length d.b, .int .i64 o1, .int .i64 o2] 58)).alloc (.cells #[.slice C b kb] 59)
def B3a (w : World) (ka ko a1 a2 o1 o2 : Int) (c d : Pt) (A B C : Option Addr) (n kc m kd b kb : Nat) (W : World) : Prop := C7 w.heap.size (.int .i64 ka) (.slice A n kc) (.bool c.s) (.slice c.A c.xs.length c.a) (.slice c.B c.ys.length c.b) (.int .i64 a1) (.int .i64 a2) W ∧ C7 (w.heap.size + 1) (.int .i64 ko) (.slice B m kd) (.bool d.s) (.slice d.A d.xs.length d.a) (.slice d.B d.ys.length d.b) (.int .i64 o1) (.int .i64 o2) W ∧ W.cell? ⟨w.heap.size + 1 + 1, 0, none⟩ = some (.slice C b kb)
theorem B3a.start (w : World) (ka ko a1 a2 o1 o2 : Int) (c d : Pt) (A B C : Option Addr) (n kc m kd b kb : Nat) : B3a w ka ko a1 a2 o1 o2 c d A B C n kc m kd b kb (W3a w ka ko a1 a2 o1 o2 c d A B C n kc m kd b kb) ∧ Below w.heap.size w (W3a w ka ko a1 a2 o1 o2 c d A B C n kc m kd b kb) := by
  have h1 : Bk w.heap.size #[.int .i64 ka, .slice A n kc, .bool c.s, .slice c.A c.xs.length c.a, .slice c.B c.ys.length c.b, .int .i64 a1, .int .i64 a2] 58 (W3a w ka ko a1 a2 o1 o2 c d A B C n kc m kd b kb) := ((Bk.new _ _ w).al _).al _
  have h2 : Bk (w.heap.size + 1) #[.int .i64 ko, .slice B m kd, .bool d.s, .slice d.A d.xs.length d.a, .slice d.B d.ys.length d.b, .int .i64 o1, .int .i64 o2] 58 (W3a w ka ko a1 a2 o1 o2 c d A B C n kc m kd b kb) := (Bk.new1 _ _ w _).al _
  have h3 : Bk (w.heap.size + 1 + 1) #[.slice C b kb] 59 (W3a w ka ko a1 a2 o1 o2 c d A B C n kc m kd b kb) := by
    have := Bk.new1 #[.slice C b kb] 59 (w.alloc (.cells #[.int .i64 ka, .slice A n kc, .bool c.s, .slice c.A c.xs.length c.a, .slice c.B c.ys.length c.b, .int .i64 a1, .int .i64 a2] 58)) (.cells #[.int .i64 ko, .slice B m kd, .bool d.s, .slice d.A d.xs.length d.a, .slice d.B d.ys.length d.b, .int .i64 o1, .int .i64 o2] 58)
    simpa [W3a] using this
  exact ⟨⟨C7.of h1, C7.of h2, h3.cell (j := 0) rfl⟩, bl_al (bl_al (bl_al (.refl _ _) _) _) _⟩
theorem B3a.next {w : World} {ka ko a1 a2 o1 o2 : Int} {c d : Pt} {A B C : Option Addr} {n kc m kd b kb : Nat} {W W' : World} (h : B3a w ka ko a1 a2 o1 o2 c d A B C n kc m kd b kb W) (hb : Below W.heap.size W W') : B3a w ka ko a1 a2 o1 o2 c d A B C n kc m kd b kb W' := ⟨h.1.next hb, h.2.1.next hb, cell_next hb h.2.2⟩
theorem same_zt (z : Int) : binOp .eql 3 (.int .i64 z) (.int .i64 z) = pure (.bool true) := eql_b 3 z z true (by simp)
theorem same_vt (v : Bool) (W : World) : (binOp .eql 4 (.bool v) (.bool v)).run Tryz.prog W = .ok (.bool true) W := by cases v <;> kernel_rfl
structure Lt (w : World) (ka ko a1 a2 o1 o2 : Int) (c d : Pt) (A B C : Option Addr) (n kc m kd b kb : Nat) (lb : List Pt) (kx : Int) (M : List ((Bool × List Nat × List Nat) × Int)) (N : Bool × List Nat × List Nat) (t1 t2 t3 t4 v5 v6 : Bool) (z4 : Int) : Prop where
  a1_ : ∀ W, Below w.heap.size w W → Calls Tryz.prog 36 #[.agg #[.int .i64 ka, .slice A n kc, .bool c.s, .slice c.A c.xs.length c.a, .slice c.B c.ys.length c.b, .int .i64 a1, .int .i64 a2]] W (RAo W kx M N t1)
  r1_ : ∀ W, Below w.heap.size w W → Calls Tryz.prog 37 #[.agg #[.int .i64 ka, .slice A n kc, .bool c.s, .slice c.A c.xs.length c.a, .slice c.B c.ys.length c.b, .int .i64 a1, .int .i64 a2]] W (RAo W kx M N t1)
  a2_ : ∀ W, Below w.heap.size w W → Calls Tryz.prog 38 #[.agg #[.int .i64 ka, .slice A n kc, .bool c.s, .slice c.A c.xs.length c.a, .slice c.B c.ys.length c.b, .int .i64 a1, .int .i64 a2]] W fun e w' => e = .returned (.tuple #[.bool t2, .bool t3]) ∧ Below W.heap.size W w'
  r2_ : ∀ W, Below w.heap.size w W → Calls Tryz.prog 39 #[.agg #[.int .i64 ka, .slice A n kc, .bool c.s, .slice c.A c.xs.length c.a, .slice c.B c.ys.length c.b, .int .i64 a1, .int .i64 a2]] W fun e w' => e = .returned (.tuple #[.bool t2, .bool t3]) ∧ Below W.heap.size W w'
  a3_ : ∀ W, Below w.heap.size w W → W.cell? ⟨w.heap.size + 1 + 1, 0, none⟩ = some (.slice C b kb) → Calls Tryz.prog 40 #[.agg #[.int .i64 ka, .slice A n kc, .bool c.s, .slice c.A c.xs.length c.a, .slice c.B c.ys.length c.b, .int .i64 a1, .int .i64 a2], .func (.func 41) #[] #[.pointer (some ⟨w.heap.size + 1 + 1, 0, none⟩)]] W fun e w' => e = .returned (.tuple #[.bool t4, .int .i64 z4]) ∧ Below W.heap.size W w'
  b3_ : ∀ W, Below w.heap.size w W → Calls Tryz.prog 42 #[.slice C b kb] W (BndO lb W)
  r3_ : ∀ W R cr, Below w.heap.size w W → Bl W R lb → Calls Tryz.prog 43 #[.agg #[.int .i64 ka, .slice A n kc, .bool c.s, .slice c.A c.xs.length c.a, .slice c.B c.ys.length c.b, .int .i64 a1, .int .i64 a2], .slice R lb.length cr] W fun e w' => e = .returned (.tuple #[.bool t4, .int .i64 z4]) ∧ Below W.heap.size W w'
  a5_ : ∀ W, Below w.heap.size w W → Calls Tryz.prog 44 #[.agg #[.int .i64 ka, .slice A n kc, .bool c.s, .slice c.A c.xs.length c.a, .slice c.B c.ys.length c.b, .int .i64 a1, .int .i64 a2]] W fun e w' => e = .returned (.bool v5) ∧ Below W.heap.size W w'
  r5_ : ∀ W, Below w.heap.size w W → Calls Tryz.prog 45 #[.agg #[.int .i64 ka, .slice A n kc, .bool c.s, .slice c.A c.xs.length c.a, .slice c.B c.ys.length c.b, .int .i64 a1, .int .i64 a2]] W fun e w' => e = .returned (.bool v5) ∧ Below W.heap.size W w'
  a6_ : ∀ W, Below w.heap.size w W → Calls Tryz.prog 47 #[.agg #[.int .i64 ka, .slice A n kc, .bool c.s, .slice c.A c.xs.length c.a, .slice c.B c.ys.length c.b, .int .i64 a1, .int .i64 a2], .agg #[.int .i64 ko, .slice B m kd, .bool d.s, .slice d.A d.xs.length d.a, .slice d.B d.ys.length d.b, .int .i64 o1, .int .i64 o2]] W fun e w' => e = .returned (.bool v6) ∧ Below W.heap.size W w'
  r6_ : ∀ W, Below w.heap.size w W → Calls Tryz.prog 46 #[.agg #[.int .i64 ka, .slice A n kc, .bool c.s, .slice c.A c.xs.length c.a, .slice c.B c.ys.length c.b, .int .i64 a1, .int .i64 a2], .agg #[.int .i64 ko, .slice B m kd, .bool d.s, .slice d.A d.xs.length d.a, .slice d.B d.ys.length d.b, .int .i64 o1, .int .i64 o2]] W fun e w' => e = .returned (.bool v6) ∧ Below W.heap.size W w'
theorem lt_any {w : World} (ka ko a1 a2 o1 o2 : Int) {c d : Pt} {A B C : Option Addr} {kc kd kb : Nat} {l m lb : List Pt} (hp : Ag w A l c) (hq : Ag w B m d) (hbl : Bl w C lb) (fb : ∀ p ∈ lb, p.Few) (b8 : ∀ p ∈ lb, p.few8 = true) (hn : lb.length ≤ 12) : ∃ kx M N t1 t2 t3 t4 v5 v6 z4, Lt w ka ko a1 a2 o1 o2 c d A B C l.length kc m.length kd lb.length kb lb kx M N t1 t2 t3 t4 v5 v6 z4 := by
  obtain ⟨kx, M, N, t1, p1, r1⟩ := not_pair hp ka kc a1 a2
  obtain ⟨t2, t3, p2, r2⟩ := triv_pair hp ka kc a1 a2
  obtain ⟨t4, z4, p3, r3⟩ := holds_pair (kb := kb) hp hbl fb b8 hn (w.heap.size + 1 + 1) ka kc a1 a2
  obtain ⟨v5, p5, r5⟩ := valida_pair hp ka kc a1 a2
  obtain ⟨v6, p6, r6⟩ := samea_pair hp hq ka ko kc kd a1 a2 o1 o2
  exact ⟨kx, M, N, t1, t2, t3, t4, v5, v6, z4, p1, r1, p2, r2, p3, fun W b => binds9_any C lb kb W (hbl.next b) (by omega), r3, p5, r5, p6, r6⟩
structure Awx (kd : Int) (M : List ((Bool × List Nat × List Nat) × Int)) (N : Bool × List Nat × List Nat) (g : Nat) (A : Option Addr) (k : Nat) (l : List Pt) (c : Pt) (W : World) : Prop where
  hM : l.map Pt.raw = M
  hN : c.cn = N
  hl : Pl W A l
  hc : c.At W
  fl : ∀ p ∈ l, p.Few
  fc : c.Few
  len : l.length ≤ 1000000
  x : C7 g (.int .i64 kd) (.slice A l.length k) (.bool c.s) (.slice c.A c.xs.length c.a) (.slice c.B c.ys.length c.b) (.int .i64 0) (.int .i64 0) W
section

variable {kd : Int} {M : List ((Bool × List Nat × List Nat) × Int)} {N : Bool × List Nat × List Nat} {g g' : Nat} {A B : Option Addr} {k k' : Nat} {l m : List Pt} {c d : Pt} {W W' : World}
theorem Awx.next (h : Awx kd M N g A k l c W) (b : Below W.heap.size W W') : Awx kd M N g A k l c W' := ⟨h.hM, h.hN, h.hl.next b, h.hc.next b, h.fl, h.fc, h.len, h.x.next b⟩
theorem awx_new (kd : Int) (k : Nat) (hM : l.map Pt.raw = M) (hN : c.cn = N) (hl : Pl W A l) (hc : c.At W) (fl : ∀ p ∈ l, p.Few) (fc : c.Few) (len : l.length ≤ 1000000) : Awx kd M N W.heap.size A k l c (W.alloc (.cells #[.int .i64 kd, .slice A l.length k, .bool c.s, .slice c.A c.xs.length c.a, .slice c.B c.ys.length c.b, .int .i64 0, .int .i64 0] 58)) :=
  ⟨hM, hN, hl.next (bl_al (.refl _ _) _), hc.next (bl_al (.refl _ _) _), fl, fc, len, C7.of (Bk.new _ _ W)⟩
theorem awx_same (h : Awx kd M N g A k l c W) (h' : Awx kd M N g' B k' m d W) : Calls Tryz.prog 46 #[.agg #[.int .i64 kd, .slice A l.length k, .bool c.s, .slice c.A c.xs.length c.a, .slice c.B c.ys.length c.b, .int .i64 0, .int .i64 0], .agg #[.int .i64 kd, .slice B m.length k', .bool d.s, .slice d.A d.xs.length d.a, .slice d.B d.ys.length d.b, .int .i64 0, .int .i64 0]] W fun e w' => e = .returned (.bool true) ∧ Below W.heap.size W w' :=
  rsamea_r kd kd A B l m k k' c d 0 0 0 0 W h.hl h'.hl h.fl h'.fl h.hc h'.hc h.fc h'.fc h.len h'.len true (by rw [h.hM, h'.hM, h.hN, h'.hN]; simp)
end
theorem few_lt {l : List Pt} (ll : ∀ p ∈ l, Limbs p.xs ∧ Limbs p.ys) (f : ∀ p ∈ l, p.few8 = true) : ∀ p ∈ l, p.Few := fun p hp => few_o (ll p hp) (f p hp)

set_option maxHeartbeats 16000000 in
theorem tells_law (ka ko a1 a2 o1 o2 : Int) (A B C : Option Addr) (l m' lb : List Pt) (kc kd kb : Nat) (c d : Pt) (w : World) (hl : Pl w A l) (hm : Pl w B m') (hc : c.At w) (hd : d.At w) (hbl : Bl w C lb) (ll : ∀ p ∈ l, (Limbs p.xs ∧ Limbs p.ys) ∧ p.Cap) (lm : ∀ p ∈ m', (Limbs p.xs ∧ Limbs p.ys) ∧ p.Cap) (lc : Limbs c.xs ∧ Limbs c.ys) (ld : Limbs d.xs ∧ Limbs d.ys) (llb : ∀ p ∈ lb, Limbs p.xs ∧ Limbs p.ys) (nl : l.length ≤ kc) (nk : kc ≤ maxLen) (ml : m'.length ≤ kd) (mk : kd ≤ maxLen) (bl : lb.length ≤ kb) (bk : kb ≤ maxLen) :
    Calls Tryz.prog 5 #[atomV ka A l.length kc c a1 a2, atomV ko B m'.length kd d o1 o2, .slice C lb.length kb] w fun e w' => e = .returned (.bool true) ∧ Below w.heap.size w w' := by
  have AW := hide (fun W => awake9_any W)
  have hmx : maxLen ≤ 9223372036854775807 := by unfold maxLen; decide
  have P1 := hide (fun W (b : Below w.heap.size w W) => alikeA_any ka A l kc c a1 a2 W (hl.next b) (by omega))
  have P2 := hide (fun W (b : Below w.heap.size w W) => alikeA_any ko B m' kd d o1 o2 W (hm.next b) (by omega))
  have P4 := hide (fun W (b : Below w.heap.size w W) => bfew9_any C lb kb W (hbl.next b) (by omega))
  have LP := hide (fun (h1 : l.length ≤ 10 ∧ (∀ p ∈ l, p.few8 = true) ∧ c.few8 = true) (h2 : m'.length ≤ 10 ∧ (∀ p ∈ m', p.few8 = true) ∧ d.few8 = true) (h4 : lb.length ≤ 12 ∧ ∀ p ∈ lb, p.few8 = true) => lt_any (kc := kc) (kd := kd) (kb := kb) ka ko a1 a2 o1 o2 ⟨hl, hc, few_lt (fun p hp => (ll p hp).1) h1.2.1, fun p hp => (ll p hp).2, few_o lc h1.2.2, h1.2.1, h1.2.2, h1.1⟩ ⟨hm, hd, few_lt (fun p hp => (lm p hp).1) h2.2.1, fun p hp => (lm p hp).2, few_o ld h2.2.2, h2.2.1, h2.2.2, h2.1⟩ hbl (few_lt llb h4.2) h4.2 h4.1)
  have st := B3a.start w ka ko a1 a2 o1 o2 c d A B C l.length kc m'.length kd lb.length kb
  obtain ⟨bb, B_⟩ : Hid (Below w.heap.size w (W3a w ka ko a1 a2 o1 o2 c d A B C l.length kc m'.length kd lb.length kb)) ∧ Hid (B3a w ka ko a1 a2 o1 o2 c d A B C l.length kc m'.length kd lb.length kb (W3a w ka ko a1 a2 o1 o2 c d A B C l.length kc m'.length kd lb.length kb)) := ⟨hide st.2, hide st.1⟩
  clear st hl hm hc hd hbl ll lm lc ld llb nl nk ml mk bl bk
  obtain ⟨n, hn⟩ : ∃ n, n = l.length := ⟨_, rfl⟩
  obtain ⟨m, hm⟩ : ∃ n, n = m'.length := ⟨_, rfl⟩
  obtain ⟨b, hb_⟩ : ∃ n, n = lb.length := ⟨_, rfl⟩
  unfold atomV at *
  unfold W3a at bb B_
  rw [← hn] at P1 LP bb B_ ⊢
  rw [← hm] at P2 LP bb B_ ⊢
  rw [← hb_] at P4 LP bb B_ ⊢
  replace hn := hide hn; replace hm := hide hm; replace hb_ := hide hb_
  obtain ⟨⟨x0, x1, x2, x3, x4, x5, x6⟩, ⟨y0, y1, y2, y3, y4, y5, y6⟩, b0⟩ := B_.out
  go_enter Tryz.func5, Tryz.ntmps5
  go_upto_region 3 with (first
    | (go_at_call 33; (with_reducible refine (P1.out _ bb.out).mono ?_); rintro e w1 ⟨r1, rfl, hb, h1⟩; replace bb := hide (bl_trans bb.out hb); replace B_ := hide (B_.out.next hb); clear hb; clear x0 x1 x2 x3 x4 x5 x6 y0 y1 y2 y3 y4 y5 y6 b0; obtain ⟨⟨x0, x1, x2, x3, x4, x5, x6⟩, ⟨y0, y1, y2, y3, y4, y5, y6⟩, b0⟩ := B_.out; cases r1 <;> replace h1 := hide h1)
    | (go_at_call 33; (with_reducible refine (P2.out _ bb.out).mono ?_); rintro e w1 ⟨r2, rfl, hb, h2⟩; replace bb := hide (bl_trans bb.out hb); replace B_ := hide (B_.out.next hb); clear hb; clear x0 x1 x2 x3 x4 x5 x6 y0 y1 y2 y3 y4 y5 y6 b0; obtain ⟨⟨x0, x1, x2, x3, x4, x5, x6⟩, ⟨y0, y1, y2, y3, y4, y5, y6⟩, b0⟩ := B_.out; cases r2 <;> replace h2 := hide h2)
    | (go_at_call 34; (with_reducible refine (P4.out _ bb.out).mono ?_); rintro e w1 ⟨r4, rfl, hb, h4⟩; replace bb := hide (bl_trans bb.out hb); replace B_ := hide (B_.out.next hb); clear hb; clear x0 x1 x2 x3 x4 x5 x6 y0 y1 y2 y3 y4 y5 y6 b0; obtain ⟨⟨x0, x1, x2, x3, x4, x5, x6⟩, ⟨y0, y1, y2, y3, y4, y5, y6⟩, b0⟩ := B_.out; cases r4 <;> replace h4 := hide h4)
    | (go_at_call 35; (with_reducible refine (AW.out _).mono ?_); rintro e w1 ⟨rfl, hb⟩; replace bb := hide (bl_trans bb.out hb); clear hb)
    | fail)
  · go_ret
    exact ⟨rfl, bb.out⟩
  · go_ret
    exact ⟨rfl, bb.out⟩
  · go_ret
    exact ⟨rfl, bb.out⟩
  obtain ⟨kx, M, N, t1, t2, t3, t4, v5, v6, zz4, L⟩ := LP.out (h1.out (by first | rfl | trivial)) (h2.out (by first | rfl | trivial)) (h4.out (by first | rfl | trivial))
  clear LP P1 P2 P4 h1 h2 h4
  have E1 := same_vt t1; have E2 := same_vt t2; have E3 := same_vt t3; have E4 := same_vt t4; have E5 := same_vt v5; have E6 := same_vt v6; have E7 := same_zt zz4
  replace L := hide L
  go_upto_region 8 with (first
    | (go_at_call 36; (with_reducible refine (L.out.a1_ _ bb.out).mono ?_); rintro e wp1 ⟨Ap1, kp1, lp1, cp1, rfl, hMp1, hNp1, pp1, tp1, fp1, gp1, np1, hb⟩; have g := bl_al hb (.cells #[.int .i64 kx, .slice Ap1 lp1.length kp1, .bool cp1.s, .slice cp1.A cp1.xs.length cp1.a, .slice cp1.B cp1.ys.length cp1.b, .int .i64 0, .int .i64 0] 58); have Hp1 := hide (awx_new kx kp1 hMp1 hNp1 pp1 tp1 fp1 gp1 np1); replace bb := hide (bl_trans bb.out g); replace B_ := hide (B_.out.next g); clear x0 x1 x2 x3 x4 x5 x6 y0 y1 y2 y3 y4 y5 y6 b0; clear hMp1 hNp1 pp1 tp1 fp1 gp1 np1; clear hb g; obtain ⟨⟨x0, x1, x2, x3, x4, x5, x6⟩, ⟨y0, y1, y2, y3, y4, y5, y6⟩, b0⟩ := B_.out)
    | (go_at_call 37; (with_reducible refine (L.out.r1_ _ bb.out).mono ?_); rintro e wp2 ⟨Ap2, kp2, lp2, cp2, rfl, hMp2, hNp2, pp2, tp2, fp2, gp2, np2, hb⟩; have g := bl_al hb (.cells #[.int .i64 kx, .slice Ap2 lp2.length kp2, .bool cp2.s, .slice cp2.A cp2.xs.length cp2.a, .slice cp2.B cp2.ys.length cp2.b, .int .i64 0, .int .i64 0] 58); have Hp2 := hide (awx_new kx kp2 hMp2 hNp2 pp2 tp2 fp2 gp2 np2); replace Hp1 := hide (Hp1.out.next g); replace bb := hide (bl_trans bb.out g); replace B_ := hide (B_.out.next g); clear x0 x1 x2 x3 x4 x5 x6 y0 y1 y2 y3 y4 y5 y6 b0; clear hMp2 hNp2 pp2 tp2 fp2 gp2 np2; clear hb g; obtain ⟨⟨x0, x1, x2, x3, x4, x5, x6⟩, ⟨y0, y1, y2, y3, y4, y5, y6⟩, b0⟩ := B_.out)
    | (go_at_call 38; (with_reducible refine (L.out.a2_ _ bb.out).mono ?_); rintro e wp3 ⟨rfl, hb⟩; have g := hb; replace Hp1 := hide (Hp1.out.next g); replace Hp2 := hide (Hp2.out.next g); replace bb := hide (bl_trans bb.out g); replace B_ := hide (B_.out.next g); clear x0 x1 x2 x3 x4 x5 x6 y0 y1 y2 y3 y4 y5 y6 b0; clear hb g; obtain ⟨⟨x0, x1, x2, x3, x4, x5, x6⟩, ⟨y0, y1, y2, y3, y4, y5, y6⟩, b0⟩ := B_.out)
    | (go_at_call 39; (with_reducible refine (L.out.r2_ _ bb.out).mono ?_); rintro e wp4 ⟨rfl, hb⟩; have g := hb; replace Hp1 := hide (Hp1.out.next g); replace Hp2 := hide (Hp2.out.next g); replace bb := hide (bl_trans bb.out g); replace B_ := hide (B_.out.next g); clear x0 x1 x2 x3 x4 x5 x6 y0 y1 y2 y3 y4 y5 y6 b0; clear hb g; obtain ⟨⟨x0, x1, x2, x3, x4, x5, x6⟩, ⟨y0, y1, y2, y3, y4, y5, y6⟩, b0⟩ := B_.out)
    | (go_at_call 40; (with_reducible refine (L.out.a3_ _ bb.out b0).mono ?_); rintro e wp5 ⟨rfl, hb⟩; have g := hb; replace Hp1 := hide (Hp1.out.next g); replace Hp2 := hide (Hp2.out.next g); replace bb := hide (bl_trans bb.out g); replace B_ := hide (B_.out.next g); clear x0 x1 x2 x3 x4 x5 x6 y0 y1 y2 y3 y4 y5 y6 b0; clear hb g; obtain ⟨⟨x0, x1, x2, x3, x4, x5, x6⟩, ⟨y0, y1, y2, y3, y4, y5, y6⟩, b0⟩ := B_.out)
    | fail)
  generalize wp1.heap.size = G1 at *
  generalize wp2.heap.size = G2 at *
  generalize hwq : wp5 = wq at *
  clear hwq
  have SS := hide (fun W (b_ : Below wq.heap.size wq W) => (show (W.cell? ⟨w.heap.size, 0, none⟩ = some (.int .i64 ka) ∧ W.cell? ⟨w.heap.size, 1, none⟩ = some (.slice A n kc) ∧ W.cell? ⟨w.heap.size, 2, none⟩ = some (.bool c.s) ∧ W.cell? ⟨w.heap.size, 3, none⟩ = some (.slice c.A c.xs.length c.a) ∧ W.cell? ⟨w.heap.size, 4, none⟩ = some (.slice c.B c.ys.length c.b) ∧ W.cell? ⟨w.heap.size, 5, none⟩ = some (.int .i64 a1) ∧ W.cell? ⟨w.heap.size, 6, none⟩ = some (.int .i64 a2)) ∧ W.cell? ⟨w.heap.size + 1 + 1, 0, none⟩ = some (.slice C b kb) from And.intro (B_.out.next b_).1 (B_.out.next b_).2.2))
  clear x0 x1 x2 x3 x4 x5 x6 y0 y1 y2 y3 y4 y5 y6 b0
  go_cut [17, 18] (fun sa sb wx => sa = .bool t4 ∧ sb = .int .i64 zz4 ∧ Below wq.heap.size wq wx)
  case first =>
    clear Hp1 Hp2
    go_region_held3 (fun W => (W.cell? ⟨w.heap.size, 0, none⟩ = some (.int .i64 ka) ∧ W.cell? ⟨w.heap.size, 1, none⟩ = some (.slice A n kc) ∧ W.cell? ⟨w.heap.size, 2, none⟩ = some (.bool c.s) ∧ W.cell? ⟨w.heap.size, 3, none⟩ = some (.slice c.A c.xs.length c.a) ∧ W.cell? ⟨w.heap.size, 4, none⟩ = some (.slice c.B c.ys.length c.b) ∧ W.cell? ⟨w.heap.size, 5, none⟩ = some (.int .i64 a1) ∧ W.cell? ⟨w.heap.size, 6, none⟩ = some (.int .i64 a2)) ∧ W.cell? ⟨w.heap.size + 1 + 1, 0, none⟩ = some (.slice C b kb))
      (first
        | (with_reducible exact SS.out _ (ka0 wq))
        | (with_reducible exact SS.out _ be)
        | (with_reducible exact SS.out _ bc)
        | fail)
      (first
        | (go_at_call 42; (with_reducible refine (L.out.b3_ _ ?hw).mono ?_); (case hw => with_reducible exact bl_trans bb.out (ka0 wq)); rintro e wa ⟨R_, cr, rfl, hR_, hb⟩; have bc : Below wq.heap.size wq wa := bl_trans (ka0 wq) hb; replace hR_ := hide hR_; clear hb)
        | (go_at_call 43; (with_reducible refine (L.out.r3_ _ R_ cr (bl_trans bb.out bc) hR_.out).mono ?_); rintro e wd ⟨rfl, hb⟩; have be := bl_trans bc hb; clear hb)
        | fail)
    all_goals
      go_wp2_with fail
      go_meet
      exact ⟨rfl, rfl, be⟩
  case rest =>
    obtain ⟨rfl, rfl, g⟩ := hcut
    replace Hp1 := hide (Hp1.out.next g); replace Hp2 := hide (Hp2.out.next g); replace bb := hide (bl_trans bb.out g); replace B_ := hide (B_.out.next g)
    clear g SS
    rename World => w12
    have SS := hide (fun W (b_ : Below w12.heap.size w12 W) => (show (W.cell? ⟨w.heap.size, 0, none⟩ = some (.int .i64 ka) ∧ W.cell? ⟨w.heap.size, 1, none⟩ = some (.slice A n kc) ∧ W.cell? ⟨w.heap.size, 2, none⟩ = some (.bool c.s) ∧ W.cell? ⟨w.heap.size, 3, none⟩ = some (.slice c.A c.xs.length c.a) ∧ W.cell? ⟨w.heap.size, 4, none⟩ = some (.slice c.B c.ys.length c.b) ∧ W.cell? ⟨w.heap.size, 5, none⟩ = some (.int .i64 a1) ∧ W.cell? ⟨w.heap.size, 6, none⟩ = some (.int .i64 a2)) ∧ (W.cell? ⟨w.heap.size + 1, 0, none⟩ = some (.int .i64 ko) ∧ W.cell? ⟨w.heap.size + 1, 1, none⟩ = some (.slice B m kd) ∧ W.cell? ⟨w.heap.size + 1, 2, none⟩ = some (.bool d.s) ∧ W.cell? ⟨w.heap.size + 1, 3, none⟩ = some (.slice d.A d.xs.length d.a) ∧ W.cell? ⟨w.heap.size + 1, 4, none⟩ = some (.slice d.B d.ys.length d.b) ∧ W.cell? ⟨w.heap.size + 1, 5, none⟩ = some (.int .i64 o1) ∧ W.cell? ⟨w.heap.size + 1, 6, none⟩ = some (.int .i64 o2)) ∧ (W.cell? ⟨G1, 0, none⟩ = some (.int .i64 kx) ∧ W.cell? ⟨G1, 1, none⟩ = some (.slice Ap1 lp1.length kp1) ∧ W.cell? ⟨G1, 2, none⟩ = some (.bool cp1.s) ∧ W.cell? ⟨G1, 3, none⟩ = some (.slice cp1.A cp1.xs.length cp1.a) ∧ W.cell? ⟨G1, 4, none⟩ = some (.slice cp1.B cp1.ys.length cp1.b) ∧ W.cell? ⟨G1, 5, none⟩ = some (.int .i64 0) ∧ W.cell? ⟨G1, 6, none⟩ = some (.int .i64 0)) ∧ (W.cell? ⟨G2, 0, none⟩ = some (.int .i64 kx) ∧ W.cell? ⟨G2, 1, none⟩ = some (.slice Ap2 lp2.length kp2) ∧ W.cell? ⟨G2, 2, none⟩ = some (.bool cp2.s) ∧ W.cell? ⟨G2, 3, none⟩ = some (.slice cp2.A cp2.xs.length cp2.a) ∧ W.cell? ⟨G2, 4, none⟩ = some (.slice cp2.B cp2.ys.length cp2.b) ∧ W.cell? ⟨G2, 5, none⟩ = some (.int .i64 0) ∧ W.cell? ⟨G2, 6, none⟩ = some (.int .i64 0)) from And.intro (B_.out.next b_).1 (And.intro (B_.out.next b_).2.1 (And.intro (Hp1.out.next b_).x (Hp2.out.next b_).x))))
    go_wp2_with fail
    (try dsimp only [List.append])
    have bw := bb.out
    replace bb := ka0 w12
    refine wp_region_held_drew (S := fun W => (W.cell? ⟨w.heap.size, 0, none⟩ = some (.int .i64 ka) ∧ W.cell? ⟨w.heap.size, 1, none⟩ = some (.slice A n kc) ∧ W.cell? ⟨w.heap.size, 2, none⟩ = some (.bool c.s) ∧ W.cell? ⟨w.heap.size, 3, none⟩ = some (.slice c.A c.xs.length c.a) ∧ W.cell? ⟨w.heap.size, 4, none⟩ = some (.slice c.B c.ys.length c.b) ∧ W.cell? ⟨w.heap.size, 5, none⟩ = some (.int .i64 a1) ∧ W.cell? ⟨w.heap.size, 6, none⟩ = some (.int .i64 a2)) ∧ (W.cell? ⟨w.heap.size + 1, 0, none⟩ = some (.int .i64 ko) ∧ W.cell? ⟨w.heap.size + 1, 1, none⟩ = some (.slice B m kd) ∧ W.cell? ⟨w.heap.size + 1, 2, none⟩ = some (.bool d.s) ∧ W.cell? ⟨w.heap.size + 1, 3, none⟩ = some (.slice d.A d.xs.length d.a) ∧ W.cell? ⟨w.heap.size + 1, 4, none⟩ = some (.slice d.B d.ys.length d.b) ∧ W.cell? ⟨w.heap.size + 1, 5, none⟩ = some (.int .i64 o1) ∧ W.cell? ⟨w.heap.size + 1, 6, none⟩ = some (.int .i64 o2)) ∧ (W.cell? ⟨G1, 0, none⟩ = some (.int .i64 kx) ∧ W.cell? ⟨G1, 1, none⟩ = some (.slice Ap1 lp1.length kp1) ∧ W.cell? ⟨G1, 2, none⟩ = some (.bool cp1.s) ∧ W.cell? ⟨G1, 3, none⟩ = some (.slice cp1.A cp1.xs.length cp1.a) ∧ W.cell? ⟨G1, 4, none⟩ = some (.slice cp1.B cp1.ys.length cp1.b) ∧ W.cell? ⟨G1, 5, none⟩ = some (.int .i64 0) ∧ W.cell? ⟨G1, 6, none⟩ = some (.int .i64 0)) ∧ (W.cell? ⟨G2, 0, none⟩ = some (.int .i64 kx) ∧ W.cell? ⟨G2, 1, none⟩ = some (.slice Ap2 lp2.length kp2) ∧ W.cell? ⟨G2, 2, none⟩ = some (.bool cp2.s) ∧ W.cell? ⟨G2, 3, none⟩ = some (.slice cp2.A cp2.xs.length cp2.a) ∧ W.cell? ⟨G2, 4, none⟩ = some (.slice cp2.B cp2.ys.length cp2.b) ∧ W.cell? ⟨G2, 5, none⟩ = some (.int .i64 0) ∧ W.cell? ⟨G2, 6, none⟩ = some (.int .i64 0))) (by kernel_rfl) ?_ (fun hHeld => ?_)
    · (try dsimp only)
      with_reducible exact SS.out _ (ka0 w12)
    refine wpAnyH_take (i := 0) (v := ?vv0) (by (simp only [List.getElem?_toArray, List.getElem?_cons_zero, List.getElem?_cons_succ]) <;> rfl) (by kernel_rfl) (by kernel_rfl) (by kernel_rfl) ?hq0 (Or.inl ⟨by rfl, ?hy0⟩) (by assumption) ?_
    case hq0 => exact fun _ _ _ h => h
    case hy0 => ((intro w hSw; (try dsimp only at hSw); go_simp) <;> (with_reducible rfl))
    (try simp only [Act.put, List.setIfInBounds_toArray, List.set_cons_zero, List.set_cons_succ])
    refine wpAnyH_take (i := 2) (v := ?vv2) (by (simp only [List.getElem?_toArray, List.getElem?_cons_zero, List.getElem?_cons_succ]) <;> rfl) (by kernel_rfl) (by kernel_rfl) (by kernel_rfl) ?hq2 (Or.inl ⟨by rfl, ?hy2⟩) (by assumption) ?_
    case hq2 => exact fun _ _ _ h => h
    case hy2 => ((intro w hSw; (try dsimp only at hSw); go_simp) <;> (with_reducible rfl))
    (try simp only [Act.put, List.setIfInBounds_toArray, List.set_cons_zero, List.set_cons_succ])
    refine wpAnyH_ready (rs := [1]) (by kernel_rfl) (by simp) ?_
    refine AllReadyH.cons (by (simp only [List.getElem?_toArray, List.getElem?_cons_zero, List.getElem?_cons_succ]) <;> rfl) (fun K hK => ?_) AllReadyH.nil
    go_simp
    (go_at_call 44; (with_reducible refine (L.out.a5_ _ (bl_trans bw bb)).mono ?_); rintro e wz ⟨rfl, hb⟩; replace bb := bl_trans bb hb; clear hb)
    (try go_wp2_with fail)
    refine hK.out _ _ ?_ (fun hHeld => ?_)
    · (try dsimp only)
      with_reducible exact SS.out _ bb
    (try clear hK K)
    (try simp only [Act.put, List.setIfInBounds_toArray, List.set_cons_zero, List.set_cons_succ])
    refine wpAnyH_ready (rs := [3]) (by kernel_rfl) (by simp) ?_
    refine AllReadyH.cons (by (simp only [List.getElem?_toArray, List.getElem?_cons_zero, List.getElem?_cons_succ]) <;> rfl) (fun K hK => ?_) AllReadyH.nil
    go_simp
    (go_at_call 45; (with_reducible refine (L.out.r5_ _ (bl_trans bw bb)).mono ?_); rintro e wz ⟨rfl, hb⟩; replace bb := bl_trans bb hb; clear hb)
    (try go_wp2_with fail)
    refine hK.out _ _ ?_ (fun hHeld => ?_)
    · (try dsimp only)
      with_reducible exact SS.out _ bb
    (try clear hK K)
    (try simp only [Act.put, List.setIfInBounds_toArray, List.set_cons_zero, List.set_cons_succ])
    as_aux_lemma =>
      refine wpAnyH_take (i := 4) (v := ?vv4) (by (simp only [List.getElem?_toArray, List.getElem?_cons_zero, List.getElem?_cons_succ]) <;> rfl) (by kernel_rfl) (by kernel_rfl) (by kernel_rfl) ?hq4 (Or.inl ⟨by rfl, ?hy4⟩) (by assumption) ?_
      case hq4 => exact fun _ _ _ h => h
      case hy4 => ((intro w hSw; (try dsimp only at hSw); go_simp) <;> (with_reducible rfl))
      (try simp only [Act.put, List.setIfInBounds_toArray, List.set_cons_zero, List.set_cons_succ])
      refine wpAnyH_take (i := 5) (v := ?vv5) (by (simp only [List.getElem?_toArray, List.getElem?_cons_zero, List.getElem?_cons_succ]) <;> rfl) (by kernel_rfl) (by kernel_rfl) (by kernel_rfl) ?hq5 (Or.inl ⟨by rfl, ?hy5⟩) (by assumption) ?_
      case hq5 => exact fun _ _ _ h => h
      case hy5 => ((intro w hSw; (try dsimp only at hSw); go_simp) <;> (with_reducible rfl))
      (try simp only [Act.put, List.setIfInBounds_toArray, List.set_cons_zero, List.set_cons_succ])
      refine wpAnyH_take (i := 6) (v := ?vv6) (by (simp only [List.getElem?_toArray, List.getElem?_cons_zero, List.getElem?_cons_succ]) <;> rfl) (by kernel_rfl) (by kernel_rfl) (by kernel_rfl) ?hq6 (Or.inl ⟨by rfl, ?hy6⟩) (by assumption) ?_
      case hq6 => exact fun _ _ _ h => h
      case hy6 => ((intro w hSw; (try dsimp only at hSw); go_simp) <;> (with_reducible rfl))
      (try simp only [Act.put, List.setIfInBounds_toArray, List.set_cons_zero, List.set_cons_succ])
      refine wpAnyH_take (i := 7) (v := ?vv7) (by (simp only [List.getElem?_toArray, List.getElem?_cons_zero, List.getElem?_cons_succ]) <;> rfl) (by kernel_rfl) (by kernel_rfl) (by kernel_rfl) ?hq7 (Or.inl ⟨by rfl, ?hy7⟩) (by assumption) ?_
      case hq7 => exact fun _ _ _ h => h
      case hy7 => ((intro w hSw; (try dsimp only at hSw); go_simp) <;> (with_reducible rfl))
      (try simp only [Act.put, List.setIfInBounds_toArray, List.set_cons_zero, List.set_cons_succ])
      refine wpAnyH_ready (rs := [8]) (by kernel_rfl) (by simp) ?_
      refine AllReadyH.cons (by (simp only [List.getElem?_toArray, List.getElem?_cons_zero, List.getElem?_cons_succ]) <;> rfl) (fun K hK => ?_) AllReadyH.nil
      go_simp
      (go_at_call 46; (with_reducible refine (awx_same (Hp1.out.next bb) (Hp2.out.next bb)).mono ?_); rintro e wz ⟨rfl, hb⟩; replace bb := bl_trans bb hb; clear hb)
      (try go_wp2_with fail)
      refine hK.out _ _ ?_ (fun hHeld => ?_)
      · (try dsimp only)
        with_reducible exact SS.out _ bb
      (try clear hK K)
      (try simp only [Act.put, List.setIfInBounds_toArray, List.set_cons_zero, List.set_cons_succ])
      refine wpAnyH_take (i := 9) (v := ?vv9) (by (simp only [List.getElem?_toArray, List.getElem?_cons_zero, List.getElem?_cons_succ]) <;> rfl) (by kernel_rfl) (by kernel_rfl) (by kernel_rfl) ?hq9 (Or.inl ⟨by rfl, ?hy9⟩) (by assumption) ?_
      case hq9 => exact fun _ _ _ h => h
      case hy9 => ((intro w hSw; (try dsimp only at hSw); go_simp) <;> (with_reducible rfl))
      (try simp only [Act.put, List.setIfInBounds_toArray, List.set_cons_zero, List.set_cons_succ])
      refine wpAnyH_take (i := 10) (v := ?vv10) (by (simp only [List.getElem?_toArray, List.getElem?_cons_zero, List.getElem?_cons_succ]) <;> rfl) (by kernel_rfl) (by kernel_rfl) (by kernel_rfl) ?hq10 (Or.inl ⟨by rfl, ?hy10⟩) (by assumption) ?_
      case hq10 => exact fun _ _ _ h => h
      case hy10 => ((intro w hSw; (try dsimp only at hSw); go_simp) <;> (with_reducible rfl))
      (try simp only [Act.put, List.setIfInBounds_toArray, List.set_cons_zero, List.set_cons_succ])
      refine wpAnyH_take (i := 11) (v := ?vv11) (by (simp only [List.getElem?_toArray, List.getElem?_cons_zero, List.getElem?_cons_succ]) <;> rfl) (by kernel_rfl) (by kernel_rfl) (by kernel_rfl) ?hq11 (Or.inl ⟨by rfl, ?hy11⟩) (by assumption) ?_
      case hq11 => exact fun _ _ _ h => h
      case hy11 => ((intro w hSw; (try dsimp only at hSw); go_simp) <;> (with_reducible rfl))
      (try simp only [Act.put, List.setIfInBounds_toArray, List.set_cons_zero, List.set_cons_succ])
      refine wpAnyH_take (i := 12) (v := ?vv12) (by (simp only [List.getElem?_toArray, List.getElem?_cons_zero, List.getElem?_cons_succ]) <;> rfl) (by kernel_rfl) (by kernel_rfl) (by kernel_rfl) ?hq12 (Or.inl ⟨by rfl, ?hy12⟩) (by assumption) ?_
      case hq12 => exact fun _ _ _ h => h
      case hy12 => ((intro w hSw; (try dsimp only at hSw); go_simp) <;> (with_reducible rfl))
      (try simp only [Act.put, List.setIfInBounds_toArray, List.set_cons_zero, List.set_cons_succ])
      refine wpAnyH_take (i := 13) (v := ?vv13) (by (simp only [List.getElem?_toArray, List.getElem?_cons_zero, List.getElem?_cons_succ]) <;> rfl) (by kernel_rfl) (by kernel_rfl) (by kernel_rfl) ?hq13 (Or.inl ⟨by rfl, ?hy13⟩) (by assumption) ?_
      case hq13 => exact fun _ _ _ h => h
      case hy13 => ((intro w hSw; (try dsimp only at hSw); go_simp) <;> (with_reducible rfl))
      (try simp only [Act.put, List.setIfInBounds_toArray, List.set_cons_zero, List.set_cons_succ])
      refine wpAnyH_take (i := 14) (v := ?vv14) (by (simp only [List.getElem?_toArray, List.getElem?_cons_zero, List.getElem?_cons_succ]) <;> rfl) (by kernel_rfl) (by kernel_rfl) (by kernel_rfl) ?hq14 (Or.inl ⟨by rfl, ?hy14⟩) (by assumption) ?_
      case hq14 => exact fun _ _ _ h => h
      case hy14 => ((intro w hSw; (try dsimp only at hSw); go_simp) <;> (with_reducible rfl))
      (try simp only [Act.put, List.setIfInBounds_toArray, List.set_cons_zero, List.set_cons_succ])
      refine wpAnyH_take (i := 15) (v := ?vv15) (by (simp only [List.getElem?_toArray, List.getElem?_cons_zero, List.getElem?_cons_succ]) <;> rfl) (by kernel_rfl) (by kernel_rfl) (by kernel_rfl) ?hq15 (Or.inl ⟨by rfl, ?hy15⟩) (by assumption) ?_
      case hq15 => exact fun _ _ _ h => h
      case hy15 => ((intro w hSw; (try dsimp only at hSw); go_simp) <;> (with_reducible rfl))
      (try simp only [Act.put, List.setIfInBounds_toArray, List.set_cons_zero, List.set_cons_succ])
      refine wpAnyH_take (i := 16) (v := ?vv16) (by (simp only [List.getElem?_toArray, List.getElem?_cons_zero, List.getElem?_cons_succ]) <;> rfl) (by kernel_rfl) (by kernel_rfl) (by kernel_rfl) ?hq16 (Or.inl ⟨by rfl, ?hy16⟩) (by assumption) ?_
      case hq16 => exact fun _ _ _ h => h
      case hy16 => ((intro w hSw; (try dsimp only at hSw); go_simp) <;> (with_reducible rfl))
      (try simp only [Act.put, List.setIfInBounds_toArray, List.set_cons_zero, List.set_cons_succ])
      refine wpAnyH_take (i := 17) (v := ?vv17) (by (simp only [List.getElem?_toArray, List.getElem?_cons_zero, List.getElem?_cons_succ]) <;> rfl) (by kernel_rfl) (by kernel_rfl) (by kernel_rfl) ?hq17 (Or.inl ⟨by rfl, ?hy17⟩) (by assumption) ?_
      case hq17 => exact fun _ _ _ h => h
      case hy17 => ((intro w hSw; (try dsimp only at hSw); go_simp) <;> (with_reducible rfl))
      (try simp only [Act.put, List.setIfInBounds_toArray, List.set_cons_zero, List.set_cons_succ])
      refine wpAnyH_take (i := 18) (v := ?vv18) (by (simp only [List.getElem?_toArray, List.getElem?_cons_zero, List.getElem?_cons_succ]) <;> rfl) (by kernel_rfl) (by kernel_rfl) (by kernel_rfl) ?hq18 (Or.inl ⟨by rfl, ?hy18⟩) (by assumption) ?_
      case hq18 => exact fun _ _ _ h => h
      case hy18 => ((intro w hSw; (try dsimp only at hSw); go_simp) <;> (with_reducible rfl))
      (try simp only [Act.put, List.setIfInBounds_toArray, List.set_cons_zero, List.set_cons_succ])
      refine wpAnyH_take (i := 19) (v := ?vv19) (by (simp only [List.getElem?_toArray, List.getElem?_cons_zero, List.getElem?_cons_succ]) <;> rfl) (by kernel_rfl) (by kernel_rfl) (by kernel_rfl) ?hq19 (Or.inl ⟨by rfl, ?hy19⟩) (by assumption) ?_
      case hq19 => exact fun _ _ _ h => h
      case hy19 => ((intro w hSw; (try dsimp only at hSw); go_simp) <;> (with_reducible rfl))
      (try simp only [Act.put, List.setIfInBounds_toArray, List.set_cons_zero, List.set_cons_succ])
      refine wpAnyH_take (i := 20) (v := ?vv20) (by (simp only [List.getElem?_toArray, List.getElem?_cons_zero, List.getElem?_cons_succ]) <;> rfl) (by kernel_rfl) (by kernel_rfl) (by kernel_rfl) ?hq20 (Or.inl ⟨by rfl, ?hy20⟩) (by assumption) ?_
      case hq20 => exact fun _ _ _ h => h
      case hy20 => ((intro w hSw; (try dsimp only at hSw); go_simp) <;> (with_reducible rfl))
      (try simp only [Act.put, List.setIfInBounds_toArray, List.set_cons_zero, List.set_cons_succ])
      refine wpAnyH_take (i := 21) (v := ?vv21) (by (simp only [List.getElem?_toArray, List.getElem?_cons_zero, List.getElem?_cons_succ]) <;> rfl) (by kernel_rfl) (by kernel_rfl) (by kernel_rfl) ?hq21 (Or.inl ⟨by rfl, ?hy21⟩) (by assumption) ?_
      case hq21 => exact fun _ _ _ h => h
      case hy21 => ((intro w hSw; (try dsimp only at hSw); go_simp) <;> (with_reducible rfl))
      (try simp only [Act.put, List.setIfInBounds_toArray, List.set_cons_zero, List.set_cons_succ])
      refine wpAnyH_take (i := 22) (v := ?vv22) (by (simp only [List.getElem?_toArray, List.getElem?_cons_zero, List.getElem?_cons_succ]) <;> rfl) (by kernel_rfl) (by kernel_rfl) (by kernel_rfl) ?hq22 (Or.inl ⟨by rfl, ?hy22⟩) (by assumption) ?_
      case hq22 => exact fun _ _ _ h => h
      case hy22 => ((intro w hSw; (try dsimp only at hSw); go_simp) <;> (with_reducible rfl))
      (try simp only [Act.put, List.setIfInBounds_toArray, List.set_cons_zero, List.set_cons_succ])
      refine wpAnyH_take (i := 23) (v := ?vv23) (by (simp only [List.getElem?_toArray, List.getElem?_cons_zero, List.getElem?_cons_succ]) <;> rfl) (by kernel_rfl) (by kernel_rfl) (by kernel_rfl) ?hq23 (Or.inl ⟨by rfl, ?hy23⟩) (by assumption) ?_
      case hq23 => exact fun _ _ _ h => h
      case hy23 => ((intro w hSw; (try dsimp only at hSw); go_simp) <;> (with_reducible rfl))
      (try simp only [Act.put, List.setIfInBounds_toArray, List.set_cons_zero, List.set_cons_succ])
      refine wpAnyH_take (i := 24) (v := ?vv24) (by (simp only [List.getElem?_toArray, List.getElem?_cons_zero, List.getElem?_cons_succ]) <;> rfl) (by kernel_rfl) (by kernel_rfl) (by kernel_rfl) ?hq24 (Or.inl ⟨by rfl, ?hy24⟩) (by assumption) ?_
      case hq24 => exact fun _ _ _ h => h
      case hy24 => ((intro w hSw; (try dsimp only at hSw); go_simp) <;> (with_reducible rfl))
      (try simp only [Act.put, List.setIfInBounds_toArray, List.set_cons_zero, List.set_cons_succ])
      refine wpAnyH_take (i := 25) (v := ?vv25) (by (simp only [List.getElem?_toArray, List.getElem?_cons_zero, List.getElem?_cons_succ]) <;> rfl) (by kernel_rfl) (by kernel_rfl) (by kernel_rfl) ?hq25 (Or.inl ⟨by rfl, ?hy25⟩) (by assumption) ?_
      case hq25 => exact fun _ _ _ h => h
      case hy25 => ((intro w hSw; (try dsimp only at hSw); go_simp) <;> (with_reducible rfl))
      (try simp only [Act.put, List.setIfInBounds_toArray, List.set_cons_zero, List.set_cons_succ])
      refine wpAnyH_take (i := 26) (v := ?vv26) (by (simp only [List.getElem?_toArray, List.getElem?_cons_zero, List.getElem?_cons_succ]) <;> rfl) (by kernel_rfl) (by kernel_rfl) (by kernel_rfl) ?hq26 (Or.inl ⟨by rfl, ?hy26⟩) (by assumption) ?_
      case hq26 => exact fun _ _ _ h => h
      case hy26 => ((intro w hSw; (try dsimp only at hSw); go_simp) <;> (with_reducible rfl))
      (try simp only [Act.put, List.setIfInBounds_toArray, List.set_cons_zero, List.set_cons_succ])
      refine wpAnyH_take (i := 27) (v := ?vv27) (by (simp only [List.getElem?_toArray, List.getElem?_cons_zero, List.getElem?_cons_succ]) <;> rfl) (by kernel_rfl) (by kernel_rfl) (by kernel_rfl) ?hq27 (Or.inl ⟨by rfl, ?hy27⟩) (by assumption) ?_
      case hq27 => exact fun _ _ _ h => h
      case hy27 => ((intro w hSw; (try dsimp only at hSw); go_simp) <;> (with_reducible rfl))
      (try simp only [Act.put, List.setIfInBounds_toArray, List.set_cons_zero, List.set_cons_succ])
      refine wpAnyH_take (i := 28) (v := ?vv28) (by (simp only [List.getElem?_toArray, List.getElem?_cons_zero, List.getElem?_cons_succ]) <;> rfl) (by kernel_rfl) (by kernel_rfl) (by kernel_rfl) ?hq28 (Or.inl ⟨by rfl, ?hy28⟩) (by assumption) ?_
      case hq28 => exact fun _ _ _ h => h
      case hy28 => ((intro w hSw; (try dsimp only at hSw); go_simp) <;> (with_reducible rfl))
      (try simp only [Act.put, List.setIfInBounds_toArray, List.set_cons_zero, List.set_cons_succ])
      refine wpAnyH_take (i := 29) (v := ?vv29) (by (simp only [List.getElem?_toArray, List.getElem?_cons_zero, List.getElem?_cons_succ]) <;> rfl) (by kernel_rfl) (by kernel_rfl) (by kernel_rfl) ?hq29 (Or.inl ⟨by rfl, ?hy29⟩) (by assumption) ?_
      case hq29 => exact fun _ _ _ h => h
      case hy29 => ((intro w hSw; (try dsimp only at hSw); go_simp) <;> (with_reducible rfl))
      (try simp only [Act.put, List.setIfInBounds_toArray, List.set_cons_zero, List.set_cons_succ])
      refine wpAnyH_take (i := 30) (v := ?vv30) (by (simp only [List.getElem?_toArray, List.getElem?_cons_zero, List.getElem?_cons_succ]) <;> rfl) (by kernel_rfl) (by kernel_rfl) (by kernel_rfl) ?hq30 (Or.inl ⟨by rfl, ?hy30⟩) (by assumption) ?_
      case hq30 => exact fun _ _ _ h => h
      case hy30 => ((intro w hSw; (try dsimp only at hSw); go_simp) <;> (with_reducible rfl))
      (try simp only [Act.put, List.setIfInBounds_toArray, List.set_cons_zero, List.set_cons_succ])
      refine wpAnyH_take (i := 31) (v := ?vv31) (by (simp only [List.getElem?_toArray, List.getElem?_cons_zero, List.getElem?_cons_succ]) <;> rfl) (by kernel_rfl) (by kernel_rfl) (by kernel_rfl) ?hq31 (Or.inl ⟨by rfl, ?hy31⟩) (by assumption) ?_
      case hq31 => exact fun _ _ _ h => h
      case hy31 => ((intro w hSw; (try dsimp only at hSw); go_simp) <;> (with_reducible rfl))
      (try simp only [Act.put, List.setIfInBounds_toArray, List.set_cons_zero, List.set_cons_succ])
      refine wpAnyH_take (i := 32) (v := ?vv32) (by (simp only [List.getElem?_toArray, List.getElem?_cons_zero, List.getElem?_cons_succ]) <;> rfl) (by kernel_rfl) (by kernel_rfl) (by kernel_rfl) ?hq32 (Or.inl ⟨by rfl, ?hy32⟩) (by assumption) ?_
      case hq32 => exact fun _ _ _ h => h
      case hy32 => ((intro w hSw; (try dsimp only at hSw); go_simp) <;> (with_reducible rfl))
      (try simp only [Act.put, List.setIfInBounds_toArray, List.set_cons_zero, List.set_cons_succ])
      refine wpAnyH_take (i := 33) (v := ?vv33) (by (simp only [List.getElem?_toArray, List.getElem?_cons_zero, List.getElem?_cons_succ]) <;> rfl) (by kernel_rfl) (by kernel_rfl) (by kernel_rfl) ?hq33 (Or.inl ⟨by rfl, ?hy33⟩) (by assumption) ?_
      case hq33 => exact fun _ _ _ h => h
      case hy33 => ((intro w hSw; (try dsimp only at hSw); go_simp) <;> (with_reducible rfl))
      (try simp only [Act.put, List.setIfInBounds_toArray, List.set_cons_zero, List.set_cons_succ])
      refine wpAnyH_take (i := 34) (v := ?vv34) (by (simp only [List.getElem?_toArray, List.getElem?_cons_zero, List.getElem?_cons_succ]) <;> rfl) (by kernel_rfl) (by kernel_rfl) (by kernel_rfl) ?hq34 (Or.inl ⟨by rfl, ?hy34⟩) (by assumption) ?_
      case hq34 => exact fun _ _ _ h => h
      case hy34 => ((intro w hSw; (try dsimp only at hSw); go_simp) <;> (with_reducible rfl))
      (try simp only [Act.put, List.setIfInBounds_toArray, List.set_cons_zero, List.set_cons_succ])
      refine wpAnyH_take (i := 35) (v := ?vv35) (by (simp only [List.getElem?_toArray, List.getElem?_cons_zero, List.getElem?_cons_succ]) <;> rfl) (by kernel_rfl) (by kernel_rfl) (by kernel_rfl) ?hq35 (Or.inl ⟨by rfl, ?hy35⟩) (by assumption) ?_
      case hq35 => exact fun _ _ _ h => h
      case hy35 => ((intro w hSw; (try dsimp only at hSw); go_simp) <;> (with_reducible rfl))
      (try simp only [Act.put, List.setIfInBounds_toArray, List.set_cons_zero, List.set_cons_succ])
      refine wpAnyH_take (i := 36) (v := ?vv36) (by (simp only [List.getElem?_toArray, List.getElem?_cons_zero, List.getElem?_cons_succ]) <;> rfl) (by kernel_rfl) (by kernel_rfl) (by kernel_rfl) ?hq36 (Or.inl ⟨by rfl, ?hy36⟩) (by assumption) ?_
      case hq36 => exact fun _ _ _ h => h
      case hy36 => ((intro w hSw; (try dsimp only at hSw); go_simp) <;> (with_reducible rfl))
      (try simp only [Act.put, List.setIfInBounds_toArray, List.set_cons_zero, List.set_cons_succ])
      refine wpAnyH_take (i := 37) (v := ?vv37) (by (simp only [List.getElem?_toArray, List.getElem?_cons_zero, List.getElem?_cons_succ]) <;> rfl) (by kernel_rfl) (by kernel_rfl) (by kernel_rfl) ?hq37 (Or.inl ⟨by rfl, ?hy37⟩) (by assumption) ?_
      case hq37 => exact fun _ _ _ h => h
      case hy37 => ((intro w hSw; (try dsimp only at hSw); go_simp) <;> (with_reducible rfl))
      (try simp only [Act.put, List.setIfInBounds_toArray, List.set_cons_zero, List.set_cons_succ])
      refine wpAnyH_take (i := 39) (v := ?vv39) (by (simp only [List.getElem?_toArray, List.getElem?_cons_zero, List.getElem?_cons_succ]) <;> rfl) (by kernel_rfl) (by kernel_rfl) (by kernel_rfl) ?hq39 (Or.inl ⟨by rfl, ?hy39⟩) (by assumption) ?_
      case hq39 => exact fun _ _ _ h => h
      case hy39 => ((intro w hSw; (try dsimp only at hSw); go_simp) <;> (with_reducible rfl))
      (try simp only [Act.put, List.setIfInBounds_toArray, List.set_cons_zero, List.set_cons_succ])
      refine wpAnyH_take (i := 40) (v := ?vv40) (by (simp only [List.getElem?_toArray, List.getElem?_cons_zero, List.getElem?_cons_succ]) <;> rfl) (by kernel_rfl) (by kernel_rfl) (by kernel_rfl) ?hq40 (Or.inl ⟨by rfl, ?hy40⟩) (by assumption) ?_
      case hq40 => exact fun _ _ _ h => h
      case hy40 => ((intro w hSw; (try dsimp only at hSw); go_simp) <;> (with_reducible rfl))
      (try simp only [Act.put, List.setIfInBounds_toArray, List.set_cons_zero, List.set_cons_succ])
      refine wpAnyH_ready (rs := [38]) (by kernel_rfl) (by simp) ?_
      refine AllReadyH.cons (by (simp only [List.getElem?_toArray, List.getElem?_cons_zero, List.getElem?_cons_succ]) <;> rfl) (fun K hK => ?_) AllReadyH.nil
      go_simp
      (go_at_call 47; (with_reducible refine (L.out.a6_ _ (bl_trans bw bb)).mono ?_); rintro e wz ⟨rfl, hb⟩; replace bb := bl_trans bb hb; clear hb)
      (try go_wp2_with fail)
      refine hK.out _ _ ?_ (fun hHeld => ?_)
      · (try dsimp only)
        with_reducible exact SS.out _ bb
      (try clear hK K)
      (try simp only [Act.put, List.setIfInBounds_toArray, List.set_cons_zero, List.set_cons_succ])
      as_aux_lemma =>
        refine wpAnyH_ready (rs := [41]) (by kernel_rfl) (by simp) ?_
        refine AllReadyH.cons (by (simp only [List.getElem?_toArray, List.getElem?_cons_zero, List.getElem?_cons_succ]) <;> rfl) (fun K hK => ?_) AllReadyH.nil
        go_simp
        (go_at_call 46; (with_reducible refine (L.out.r6_ _ (bl_trans bw bb)).mono ?_); rintro e wz ⟨rfl, hb⟩; replace bb := bl_trans bb hb; clear hb)
        (try go_wp2_with fail)
        refine hK.out _ _ ?_ (fun hHeld => ?_)
        · (try dsimp only)
          with_reducible exact SS.out _ bb
        (try clear hK K)
        (try simp only [Act.put, List.setIfInBounds_toArray, List.set_cons_zero, List.set_cons_succ])
        refine wpAnyH_take (i := 42) (v := ?vv42) (by (simp only [List.getElem?_toArray, List.getElem?_cons_zero, List.getElem?_cons_succ]) <;> rfl) (by kernel_rfl) (by kernel_rfl) (by kernel_rfl) ?hq42 (Or.inl ⟨by rfl, ?hy42⟩) (by assumption) ?_
        case hq42 => exact fun _ _ _ h => h
        case hy42 => ((intro w hSw; (try dsimp only at hSw); go_simp) <;> (with_reducible rfl))
        (try simp only [Act.put, List.setIfInBounds_toArray, List.set_cons_zero, List.set_cons_succ])
        refine wpAnyH_take (i := 43) (v := ?vv43) (by (simp only [List.getElem?_toArray, List.getElem?_cons_zero, List.getElem?_cons_succ]) <;> rfl) (by kernel_rfl) (by kernel_rfl) (by kernel_rfl) ?hq43 (Or.inl ⟨by rfl, ?hy43⟩) (by assumption) ?_
        case hq43 => exact fun _ _ _ h => h
        case hy43 => ((intro w hSw; (try dsimp only at hSw); go_simp) <;> (with_reducible rfl))
        (try simp only [Act.put, List.setIfInBounds_toArray, List.set_cons_zero, List.set_cons_succ])
        refine wpAnyH_take (i := 44) (v := ?vv44) (by (simp only [List.getElem?_toArray, List.getElem?_cons_zero, List.getElem?_cons_succ]) <;> rfl) (by kernel_rfl) (by kernel_rfl) (by kernel_rfl) ?hq44 (Or.inl ⟨by rfl, ?hy44⟩) (by assumption) ?_
        case hq44 => exact fun _ _ _ h => h
        case hy44 => ((intro w hSw; (try dsimp only at hSw); go_simp) <;> (with_reducible rfl))
        (try simp only [Act.put, List.setIfInBounds_toArray, List.set_cons_zero, List.set_cons_succ])
        refine wpAnyH_ready (rs := [45]) (by kernel_rfl) (by simp) ?_
        refine AllReadyH.cons (by (simp only [List.getElem?_toArray, List.getElem?_cons_zero, List.getElem?_cons_succ]) <;> rfl) (fun K hK => ?_) AllReadyH.nil
        go_simp
        (go_at_call 35; (with_reducible refine (AW.out _).mono ?_); rintro e wz ⟨rfl, hb⟩; replace bb := bl_trans bb hb; clear hb)
        (try go_wp2_with fail)
        refine hK.out _ _ ?_ (fun hHeld => ?_)
        · (try dsimp only)
          with_reducible exact SS.out _ bb
        (try clear hK K)
        (try simp only [Act.put, List.setIfInBounds_toArray, List.set_cons_zero, List.set_cons_succ])
        refine wpAnyH_take (i := 46) (v := ?vv46) (by (simp only [List.getElem?_toArray, List.getElem?_cons_zero, List.getElem?_cons_succ]) <;> rfl) (by kernel_rfl) (by kernel_rfl) (by kernel_rfl) ?hq46 (Or.inl ⟨by rfl, ?hy46⟩) (by assumption) ?_
        case hq46 => exact fun _ _ _ h => h
        case hy46 => ((intro w hSw; (try dsimp only at hSw); go_simp) <;> (with_reducible rfl))
        (try simp only [Act.put, List.setIfInBounds_toArray, List.set_cons_zero, List.set_cons_succ])
        refine wpAnyH_take (i := 47) (v := ?vv47) (by (simp only [List.getElem?_toArray, List.getElem?_cons_zero, List.getElem?_cons_succ]) <;> rfl) (by kernel_rfl) (by kernel_rfl) (by kernel_rfl) ?hq47 (Or.inl ⟨by rfl, ?hy47⟩) (by assumption) ?_
        case hq47 => exact fun _ _ _ h => h
        case hy47 => ((intro w hSw; (try dsimp only at hSw); go_simp) <;> (with_reducible rfl))
        (try simp only [Act.put, List.setIfInBounds_toArray, List.set_cons_zero, List.set_cons_succ])
        refine wpAnyH_done (by kernel_rfl) ?_ _
        go_wp2_with fail
        go_ret
        exact ⟨rfl, bl_trans bw bb⟩
end Nt

end Go.Proofs.YtgimmmmpollkhaaGreat
