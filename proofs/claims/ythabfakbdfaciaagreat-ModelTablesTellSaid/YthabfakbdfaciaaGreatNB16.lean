import Derived.Test.YthabfakbdfaciaaGreatNB15
namespace Go.Proofs.YthabfakbdfaciaaGreat
open Go.ChangeShapes Go.RowKit
namespace Nt
set_option maxRecDepth 100000
set_option linter.unusedSimpArgs false
set_option linter.unusedVariables false

theorem Bk.rl {α : Type} {R : Rt α} (hR : R.Ok) {g : Nat} {cur : Array Value} {t : TypeId} {W : World} {l : List α} (hB : Bk g cur t W) (hc : cur.toList = R.ecs l) {Z : List Nat} (hZ : g ∉ Z) : Rl R Z W (some ⟨g, 0, none⟩) l := by
  refine .inr ⟨g, 0, rfl, hZ, fun i hi j v hv => ?_⟩
  have hj : j < R.k := by rw [← hR.len l[i]]; exact (List.getElem?_eq_some_iff.1 hv).1
  rw [Nat.zero_add]
  refine hB.cell ?_
  rw [← Array.getElem?_toList, hc, hR.ecs_get l i j hi hj]
  exact hv
structure Nq (r : Pt) (q : Rat) (W : World) : Prop where
  q : r.q = q
  ok : r.Ok
  at_ : r.At W
theorem Nq.next {r : Pt} {q : Rat} {w w' : World} (h : Nq r q w) (hb : Below w.heap.size w w') : Nq r q w' := ⟨h.q, h.ok, ⟨kp' hb h.at_.1, kp' hb h.at_.2⟩⟩
theorem Nq.cn {r : Pt} {q : Rat} {w : World} (h : Nq r q w) : (nmV r).cn = cq q := cq_of h.ok h.q
theorem Nq.few {r : Pt} {q : Rat} {w : World} (h : Nq r q w) : (nmV r).Few := h.ok.few' _ rfl
theorem lnum_e (n d : Int) (q : Rat) (w : World) (n1 : -9223372036854775808 ≤ n) (n2 : n ≤ 9223372036854775807) (d1 : -9223372036854775808 ≤ d) (d2 : d ≤ 9223372036854775807) (d0 : d ≠ 0) (hq : qmk (isg n != isg d) n.natAbs d.natAbs = q) (f : fitq q) :
    Calls Tryz.prog 29 #[.int .i64 n, .int .i64 d] w fun e w' => ∃ r : Pt, e = .returned (.agg #[.int .i64 1, .bool false, .bool r.s, .slice r.A r.xs.length r.a, .slice r.B r.ys.length r.b, .int .i64 0]) ∧ Nq r q w' ∧ Below w.heap.size w w' :=
  (lnum_v n d q w n1 n2 d1 d2 d0 hq f).mono fun e w' ⟨r, he, h1, h2, h3, hb⟩ => ⟨r, he, ⟨h1, h2, h3⟩, hb⟩
theorem rof_e (n d : Int) (q : Rat) (w : World) (n1 : -9223372036854775808 ≤ n) (n2 : n ≤ 9223372036854775807) (d1 : -9223372036854775808 ≤ d) (d2 : d ≤ 9223372036854775807) (d0 : d ≠ 0) (hq : qmk (isg n != isg d) n.natAbs d.natAbs = q) (f : fitq q) :
    Calls Tryz.prog 32 #[.int .i64 n, .int .i64 d] w fun e w' => ∃ r : Pt, e = .returned (.agg #[.bool r.s, .slice r.A r.xs.length r.a, .slice r.B r.ys.length r.b]) ∧ Nq r q w' ∧ Below w.heap.size w w' :=
  (rof_q n d q w n1 n2 d1 d2 d0 hq).mono fun e w' h => by
    obtain ⟨r, he, h1, h2, h3, hb⟩ := RQ.newR' h f
    exact ⟨r, he, ⟨h1, h2, h3⟩, hb⟩
theorem mk_numq {X : List Nat} {B0 : Nat} {w0 w : World} {g N : Nat} {so fu : List (ByteArray × Nat)} {ty : List Fn} {ns : List Nd} (h : Tt X B0 w0 w g N so fu ty ns) (hN : N ≤ 100000) (hns : ns ≠ []) {r : Pt} {q : Rat} (hr : Nq r q w) (s : Bool) (xs ys : List Nat) (hs : qs q = s) (hx : digs (qn q) = xs) (hy : digs (qd q) = ys) (hlen : ns.length < 16384) (hnew : ∀ m ∈ ns, kvl m ≠ kvl ⟨11, ⟨#[]⟩, s, xs, ys, [], 1, 0⟩) :
    Calls Tryz.prog 28 #[.pointer (some ⟨g, 0, none⟩), .int .i64 11, .string ⟨#[]⟩, .agg #[.bool r.s, .slice r.A r.xs.length r.a, .slice r.B r.ys.length r.b], .slice none 0 0] w fun ee w' => ee = .returned (.tuple #[.int .i64 (ns.length : Int), .int .i64 0]) ∧ Tt X B0 w0 w' g (N + 1) so fu ty (ns ++ [⟨11, ⟨#[]⟩, s, xs, ys, [], 1, wOf ns 11 xs []⟩]) ∧ Same X w w' := by
  obtain rfl : r.s = s := by rw [hr.ok.s, hr.q, hs]
  obtain rfl : r.xs = xs := by rw [hr.ok.x, hr.q, hx]
  obtain rfl : r.ys = ys := by rw [hr.ok.y, hr.q, hy]
  exact mk_num h hN hns r hr.ok hr.at_ hlen hnew
theorem vs_one {W : World} {g : Nat} {v : Vl} {t : TypeId} (hB : Bk g #[.int .i64 v.so, .bool v.bo, .bool v.p.s, .slice v.p.A v.p.xs.length v.p.a, .slice v.p.B v.p.ys.length v.p.b, .int .i64 v.el] t W) (a : v.At W) {Z : List Nat} (hZ : g ∉ Z) : Vs Z W (some ⟨g, 0, none⟩) [v] :=
  ⟨hB.rl rV_ok rfl hZ, fun u hu => by rw [List.mem_singleton] at hu; subst hu; exact a⟩

-- the terms
def nX : Nd := ⟨12, ⟨#[120]⟩, false, [], [], [], 1, 0⟩
def nO : Nd := ⟨11, ⟨#[]⟩, false, [1], [1], [], 1, 2⟩
def nA : Nd := ⟨13, ⟨#[]⟩, false, [], [], [0, 1], 1, 0⟩
def nF : Nd := ⟨12, ⟨#[102]⟩, false, [], [], [2], 1, 0⟩
-- the tables
def tbX (r : Pt) : Tr := ⟨⟨#[120]⟩, none, [], 0, nmV r⟩
def tbF (g3 g7 : Nat) (r3 r7 r0 : Pt) : Tr := ⟨⟨#[102]⟩, some ⟨g7, 0, none⟩, [⟨some ⟨g3, 0, none⟩, [nmV r3], 1, nmV r7⟩], 1, nmV r0⟩
structure Ml (r2 r3 r7 r0 : Pt) (g3 g7 gt : Nat) (W : World) : Prop where
  n2 : Nq r2 2 W
  n3 : Nq r3 3 W
  n7 : Nq r7 7 W
  n0 : Nq r0 0 W
  b3 : Bk g3 #[.int .i64 1, .bool false, .bool r3.s, .slice r3.A r3.xs.length r3.a, .slice r3.B r3.ys.length r3.b, .int .i64 0] 30 W
  b7 : Bk g7 #[.slice (some ⟨g3, 0, none⟩) 1 1, .int .i64 1, .bool false, .bool r7.s, .slice r7.A r7.xs.length r7.a, .slice r7.B r7.ys.length r7.b, .int .i64 0] 76 W
  bt : Bk gt #[.string ⟨#[120]⟩, .slice none 0 0, .int .i64 1, .bool false, .bool r2.s, .slice r2.A r2.xs.length r2.a, .slice r2.B r2.ys.length r2.b, .int .i64 0, .string ⟨#[102]⟩, .slice (some ⟨g7, 0, none⟩) 1 1, .int .i64 1, .bool false, .bool r0.s, .slice r0.A r0.xs.length r0.a, .slice r0.B r0.ys.length r0.b, .int .i64 0] 37 W
section
variable {r2 r3 r7 r0 : Pt} {g3 g7 gt : Nat} {W W' : World}
theorem Ml.next (h : Ml r2 r3 r7 r0 g3 g7 gt W) (hb : Below W.heap.size W W') : Ml r2 r3 r7 r0 g3 g7 gt W' := ⟨h.n2.next hb, h.n3.next hb, h.n7.next hb, h.n0.next hb, h.b3.next hb, h.b7.next hb, h.bt.next hb⟩
theorem Ml.ts (h : Ml r2 r3 r7 r0 g3 g7 gt W) : Ts [] W (some ⟨gt, 0, none⟩) [tbX r2, tbF g3 g7 r3 r7 r0] := by
  refine ⟨h.bt.rl rT_ok rfl (by simp), fun t ht => ?_⟩
  simp only [List.mem_cons, List.not_mem_nil, or_false] at ht
  rcases ht with rfl | rfl
  · exact ⟨⟨.inl rfl, by simp [tbX]⟩, h.n2.at_⟩
  · refine ⟨⟨h.b7.rl rR_ok rfl (by simp), fun r hr => ?_⟩, h.n0.at_⟩
    simp only [tbF, List.mem_singleton] at hr
    subst hr
    exact ⟨vs_one (v := nmV r3) h.b3 h.n3.at_ (by simp), h.n7.at_⟩
theorem Ml.few (h : Ml r2 r3 r7 r0 g3 g7 gt W) : ∀ t ∈ [tbX r2, tbF g3 g7 r3 r7 r0], t.Few := by
  intro t ht
  simp only [List.mem_cons, List.not_mem_nil, or_false] at ht
  rcases ht with rfl | rfl
  · exact ⟨by simp [tbX], h.n2.few, by simp [tbX]⟩
  · refine ⟨fun r hr => ?_, h.n0.few, by simp [tbF]⟩
    simp only [tbF, List.mem_singleton] at hr
    subst hr
    exact ⟨fun v hv => by rw [List.mem_singleton] at hv; subst hv; exact h.n3.few, h.n7.few, by simp⟩
theorem one_three {a b : Vl} {x y : Rat} (ha : a.cn = cq x) (hb : b.cn = cq y) : sameL [a] [b] = decide (x = y) := by
  unfold sameL
  rw [vsame_cq ha hb]
  simp [sameL]
theorem Ml.ev (h : Ml r2 r3 r7 r0 g3 g7 gt W) : Ev [nX, nO, nA, nF] [tbX r2, tbF g3 g7 r3 r7 r0] (fun i => ([cq 2, cq 1, cq 3, cq 7] : List CV)[i]?) (fun i => ([1, 1, 3, 4] : List Nat).getD i 0) where
  in_ := fun i c hc => (List.getElem?_eq_some_iff.1 hc).1
  wt := fun i hi _ => by
    have hi' : i < 4 := hi
    match i, hi' with
    | 0, _ => exact (show 1 + (nX.ar.map (fun a => ([1, 1, 3, 4] : List Nat).getD a.toNat 0)).sum ≤ 1 from by decide)
    | 1, _ => exact (show 1 + (nO.ar.map (fun a => ([1, 1, 3, 4] : List Nat).getD a.toNat 0)).sum ≤ 1 from by decide)
    | 2, _ => exact (show 1 + (nA.ar.map (fun a => ([1, 1, 3, 4] : List Nat).getD a.toNat 0)).sum ≤ 3 from by decide)
    | 3, _ => exact (show 1 + (nF.ar.map (fun a => ([1, 1, 3, 4] : List Nat).getD a.toNat 0)).sum ≤ 4 from by decide)
  made := fun i c hi hc => by
    have hi' : i < 4 := hi
    match i, hi' with
    | 0, _ =>
      obtain rfl : cq 2 = c := by simpa using hc
      exact ⟨[], rfl, mt_con (n := nX) rfl (by decide) (tbX r2) rfl rfl _ h.n2.cn⟩
    | 1, _ =>
      obtain rfl : cq 1 = c := by simpa using hc
      exact ⟨[], rfl, mt_num (n := nO) rfl 1 (fitL (by decide +kernel) (by decide +kernel)) (by decide +kernel) (show [1] = _ by kernel_rfl) (show [1] = _ by kernel_rfl)⟩
    | 2, _ =>
      obtain rfl : cq 3 = c := by simpa using hc
      refine ⟨[cq 2, cq 1], rfl, ?_⟩
      have := mt_reck (tbs := [tbX r2, tbF g3 g7 r3 r7 r0]) (n := nA) (.inl rfl) 2 [1] (by decide) (by decide) ⟨fitL (by decide +kernel) (by decide +kernel), fun r hr => by rw [List.mem_singleton] at hr; subst hr; exact fitL (by decide +kernel) (by decide +kernel)⟩ (fun i hi => ?_) (fun h => by cases h)
      · rw [show gQ nA.op 2 [1] = 3 by decide +kernel] at this
        exact this
      · have : i = 0 ∨ i = 1 := by simp at hi; omega
        rcases this with rfl | rfl <;> exact fitL (by decide +kernel) (by decide +kernel)
    | 3, _ =>
      obtain rfl : cq 7 = c := by simpa using hc
      refine ⟨[cq 3], rfl, mt_app1 (n := nF) rfl (by decide) (tbF g3 g7 r3 r7 r0) rfl (cq 3) _ fun v hv => ?_⟩
      show (if sameL [nmV r3] [v] = true then nmV r7 else applyL [] [v] (nmV r0)).cn = _
      rw [if_pos (by rw [one_three h.n3.cn hv]; decide), h.n7.cn]
end

theorem bel_dr (U : World) : Below U.heap.size U U.drew := ((Off.refl [] U).drew).below (Nat.le_refl _) (by simp)
structure Vx (u : Vl) (c : CV) (W : World) : Prop where
  cn : u.cn = c
  at_ : u.At W
  few : u.Few
theorem Vx.next {u : Vl} {c : CV} {w w' : World} (h : Vx u c w) (hb : Below w.heap.size w w') : Vx u c w' := ⟨h.cn, h.at_.next hb, h.few⟩
theorem zero_e (W : World) : Calls Tryz.prog 17 #[.int .i64 1] W fun e w' => ∃ v : Vl, e = .returned (.agg #[.int .i64 v.so, .bool v.bo, .bool v.p.s, .slice v.p.A v.p.xs.length v.p.a, .slice v.p.B v.p.ys.length v.p.b, .int .i64 v.el]) ∧ Vx v (cq 0) w' ∧ Below W.heap.size W w' :=
  (zero_v 1 W).mono fun e w' ⟨v, e1, h1, h2, h3, h4, _, h6, h7, h8⟩ => ⟨v, e1, ⟨by
    obtain ⟨k1, k2⟩ := h4 rfl
    unfold Vl.cn cq Pt.con
    rw [h1, h2, h3, k2.s, k2.x, k2.y, k1], h6, h7⟩, h8⟩
theorem same_b (u : Vl) (r : Pt) (c : CV) (q : Rat) (W : World) (hu : Vx u c W) (hr : Nq r q W) (b : Bool) (hc : decide (c = cq q) = b) : Calls Tryz.prog 14 #[.agg #[.int .i64 u.so, .bool u.bo, .bool u.p.s, .slice u.p.A u.p.xs.length u.p.a, .slice u.p.B u.p.ys.length u.p.b, .int .i64 u.el], .agg #[.int .i64 1, .bool false, .bool r.s, .slice r.A r.xs.length r.a, .slice r.B r.ys.length r.b, .int .i64 0]] W fun e w' => e = .returned (.bool b) ∧ Below W.heap.size W w' :=
  lsame_v (a := u) (b := nmV r) hu.few hr.few W hu.at_ hr.at_ b (by rw [hu.cn, hr.cn]; exact hc)
theorem same_e (u : Vl) (r : Pt) (c : CV) (q : Rat) (W : World) (hu : Vx u c W) (hr : Nq r q W) (hc : c = cq q) : Calls Tryz.prog 14 #[.agg #[.int .i64 u.so, .bool u.bo, .bool u.p.s, .slice u.p.A u.p.xs.length u.p.a, .slice u.p.B u.p.ys.length u.p.b, .int .i64 u.el], .agg #[.int .i64 1, .bool false, .bool r.s, .slice r.A r.xs.length r.a, .slice r.B r.ys.length r.b, .int .i64 0]] W fun e w' => e = .returned (.bool true) ∧ Below W.heap.size W w' :=
  same_b u r c q W hu hr true (decide_eq_true hc)
theorem msame_e (r s : Pt) (q : Rat) (W : World) (hr : Nq r q W) (hs : Nq s q W) : Calls Tryz.prog 10 #[.agg #[.int .i64 1, .bool false, .bool r.s, .slice r.A r.xs.length r.a, .slice r.B r.ys.length r.b, .int .i64 0], .agg #[.int .i64 1, .bool false, .bool s.s, .slice s.A s.xs.length s.a, .slice s.B s.ys.length s.b, .int .i64 0]] W fun e w' => e = .returned (.bool true) ∧ Below W.heap.size W w' :=
  same_v (a := nmV r) (b := nmV s) hr.few hs.few W hr.at_ hs.at_ true (by rw [vsame_cq hr.cn hs.cn]; exact decide_eq_true rfl)
theorem msame_3 (r : Pt) (q : Rat) (W : World) (hr : Nq r q W) : Calls Tryz.prog 10 #[.agg #[.int .i64 1, .bool false, .bool r.s, .slice r.A r.xs.length r.a, .slice r.B r.ys.length r.b, .int .i64 0], .agg #[.int .i64 3, .bool false, .bool false, .slice none 0 0, .slice none 0 0, .int .i64 0]] W fun e w' => e = .returned (.bool false) ∧ Below W.heap.size W w' :=
  same_v (a := nmV r) (b := ⟨3, false, ⟨false, none, 0, [], none, 0, [], 0⟩, 0⟩) hr.few ⟨⟨by simp [Limbs], by simp [Limbs], by simp, by simp⟩, by simp, by simp⟩ W hr.at_ ⟨.inl rfl, .inl rfl⟩ false (by
    unfold vsame nmV
    simp)
theorem apply_e {Z : List Nat} {t : Tr} (h1 : t.l.map Rr.cn = [([cq 3], cq 7)]) (h2 : t.e.cn = cq 0) {W : World} (h3 : t.At Z W) (h4 : t.Few) (r : Pt) (hr : Nq r 1 W) (k : Nat) :
    Calls Tryz.prog 15 #[.agg #[.string t.nm, .slice t.A t.l.length t.c, .int .i64 t.e.so, .bool t.e.bo, .bool t.e.p.s, .slice t.e.p.A t.e.p.xs.length t.e.p.a, .slice t.e.p.B t.e.p.ys.length t.e.p.b, .int .i64 t.e.el], .slice (some ⟨W.heap.size, 0, none⟩) 1 k] (W.alloc (.cells #[.int .i64 1, .bool false, .bool r.s, .slice r.A r.xs.length r.a, .slice r.B r.ys.length r.b, .int .i64 0] 30)) fun e w' => ∃ v : Vl, e = .returned (.agg #[.int .i64 v.so, .bool v.bo, .bool v.p.s, .slice v.p.A v.p.xs.length v.p.a, .slice v.p.B v.p.ys.length v.p.b, .int .i64 v.el]) ∧ Vx v (cq 0) w' ∧ Below (W.alloc (.cells #[.int .i64 1, .bool false, .bool r.s, .slice r.A r.xs.length r.a, .slice r.B r.ys.length r.b, .int .i64 0] 30)).heap.size (W.alloc (.cells #[.int .i64 1, .bool false, .bool r.s, .slice r.A r.xs.length r.a, .slice r.B r.ys.length r.b, .int .i64 0] 30)) w' := by
  have hb : Below W.heap.size W (W.alloc (.cells #[.int .i64 1, .bool false, .bool r.s, .slice r.A r.xs.length r.a, .slice r.B r.ys.length r.b, .int .i64 0] 30)) := bl_al (.refl _ _) _
  refine (apply_v t (some ⟨W.heap.size, 0, none⟩) k [nmV r] _ (h3.next hb) h4 (vs_one (v := nmV r) (Z := []) (Bk.new _ _ W) ((hr.next hb).at_) (by simp)) (by intro v hv; rw [List.mem_singleton] at hv; subst hv; exact hr.few) (by simp)).mono fun e w' ⟨v, e1, e2, e3, e4, e5⟩ => ⟨v, e1, ⟨?_, e3, e4⟩, e5⟩
  rw [e2]
  obtain ⟨x, hl⟩ : ∃ x, t.l = [x] := List.length_eq_one_iff.1 (by simpa using congrArg List.length h1)
  rw [hl] at h1
  have hx : x.cn = ([cq 3], cq 7) := by simpa using h1
  have hx1 : x.l.map Vl.cn = [cq 3] := congrArg Prod.fst hx
  obtain ⟨y, hy, hyc⟩ := one_of hx1
  rw [hl]
  show (if sameL x.l [nmV r] = true then x.v else applyL [] [nmV r] t.e).cn = _
  rw [hy, one_three hyc hr.cn, if_neg (by decide +kernel)]
  exact h2

set_option maxHeartbeats 16000000 in
theorem awake10_any (w : World) : Calls Tryz.prog 9 #[] w fun e w' => e = .returned (.bool true) ∧ Below w.heap.size w w' := by
  have ht := tables_t w
  generalize hBd : w.heap.size = B at *
  replace hBd := hide hBd
  replace ht := hide ht
  have cx : ∀ q W, Tt [] B w W q 0 so0 (fuN 10) dcl [] → Calls Tryz.prog 28 #[.pointer (some ⟨q, 0, none⟩), .int .i64 12, .string ⟨#[120]⟩, .agg #[.bool false, .slice none 0 0, .slice none 0 0], .slice none 0 0] W fun e w' => e = .returned (.tuple #[.int .i64 0, .int .i64 0]) ∧ Tt [] B w w' q 1 so0 (fuN 10) dcl [nX] := fun q W h =>
    (mk_con h (by decide) ⟨#[120]⟩ (by decide) 0 (by decide) rfl rfl (by decide) (by decide) (by simp)).mono fun e w' ⟨he, h1, _⟩ => ⟨he, h1⟩
  have c1 : ∀ q W r, Tt [] B w W q 1 so0 (fuN 10) dcl [nX] → Nq r 1 W → Calls Tryz.prog 28 #[.pointer (some ⟨q, 0, none⟩), .int .i64 11, .string ⟨#[]⟩, .agg #[.bool r.s, .slice r.A r.xs.length r.a, .slice r.B r.ys.length r.b], .slice none 0 0] W fun e w' => e = .returned (.tuple #[.int .i64 1, .int .i64 0]) ∧ Tt [] B w w' q 2 so0 (fuN 10) dcl [nX, nO] := fun q W r h hr =>
    (mk_numq h (by decide) (by simp) hr false [1] [1] (by decide +kernel) (by kernel_rfl) (by kernel_rfl) (by decide) (by intro m hm; simp at hm; subst hm; exact kv_ne (by decide))).mono fun e w' ⟨he, h1, _⟩ => ⟨he, h1⟩
  have hin2 : ∀ a ∈ ([0, 1] : List Int), 0 ≤ a ∧ a < (([nX, nO] : List Nd).length : Int) := by decide
  have c2 : ∀ q W, Tt [] B w W q 2 so0 (fuN 10) dcl [nX, nO] → Calls Tryz.prog 28 #[.pointer (some ⟨q, 0, none⟩), .int .i64 13, .string ⟨#[]⟩, .agg #[.bool false, .slice none 0 0, .slice none 0 0], .slice (some ⟨W.heap.size, 0, none⟩) 2 2] (W.alloc (.cells #[.int .i64 0, .int .i64 1] 3)) fun e w' => e = .returned (.tuple #[.int .i64 2, .int .i64 0]) ∧ Tt [] B w w' q 3 so0 (fuN 10) dcl [nX, nO, nA] := fun q W h =>
    (mk_op_new (h.alloc _) (by decide) 13 (by decide) (by decide) (by decide) (by decide) _ [0, 1] 2 (two_rx W 0 1 h.base) (by decide) (by decide) (by decide) hin2 (by decide) (by decide) (by decide) (by decide) (by decide) (by intro m hm; simp at hm; rcases hm with rfl | rfl <;> exact kv_ne (by decide))).mono fun e w' ⟨he, h1, _⟩ => ⟨he, h1.less (by simp)⟩
  have c3 : ∀ q W, Tt [] B w W q 3 so0 (fuN 10) dcl [nX, nO, nA] → Calls Tryz.prog 28 #[.pointer (some ⟨q, 0, none⟩), .int .i64 12, .string ⟨#[102]⟩, .agg #[.bool false, .slice none 0 0, .slice none 0 0], .slice (some ⟨W.heap.size, 0, none⟩) 1 1] (W.alloc (.cells #[.int .i64 2] 3)) fun e w' => e = .returned (.tuple #[.int .i64 3, .int .i64 0]) ∧ Tt [] B w w' q 4 so0 (fuN 10) dcl [nX, nO, nA, nF] := fun q W h =>
    (mk_app1 (h.alloc _) (by decide) ⟨#[102]⟩ (by decide) 7 (by decide) rfl 1 rfl (by decide) _ 2 1 (one_rx W 2 h.base) (by decide) (by decide) (by decide) (by intro m hm; simp at hm; rcases hm with rfl | rfl | rfl; exact kv_name (by decide); exact kv_ne (by decide); exact kv_ne (by decide))).mono fun e w' ⟨he, h1, _⟩ => ⟨he, h1.less (by simp)⟩
  have O1 := hide (fun W => rof_e 1 1 1 W (by decide) (by decide) (by decide) (by decide) (by decide) (by first | rfl | decide +kernel) (fitL (by decide +kernel) (by decide +kernel)))
  have N2 := hide (fun W => lnum_e 2 1 2 W (by decide) (by decide) (by decide) (by decide) (by decide) (by first | rfl | decide +kernel) (fitL (by decide +kernel) (by decide +kernel)))
  have N3 := hide (fun W => lnum_e 3 1 3 W (by decide) (by decide) (by decide) (by decide) (by decide) (by first | rfl | decide +kernel) (fitL (by decide +kernel) (by decide +kernel)))
  have N7 := hide (fun W => lnum_e 7 1 7 W (by decide) (by decide) (by decide) (by decide) (by decide) (by first | rfl | decide +kernel) (fitL (by decide +kernel) (by decide +kernel)))
  have N0 := hide (fun W => lnum_e 0 1 0 W (by decide) (by decide) (by decide) (by decide) (by decide) (by first | rfl | decide +kernel) (fitL (by decide +kernel) (by decide +kernel)))
  have N1 := hide (fun W => lnum_e 1 1 1 W (by decide) (by decide) (by decide) (by decide) (by decide) (by first | rfl | decide +kernel) (fitL (by decide +kernel) (by decide +kernel)))
  have NH := hide (fun W => lnum_e 1 2 (1 / 2) W (by decide) (by decide) (by decide) (by decide) (by decide) (by first | rfl | decide +kernel) (fitL (by decide +kernel) (by decide +kernel)))
  have c4 : ∀ q W r2 r3 r7 r0 g3 g7 gt, Tt [] B w W q 4 so0 (fuN 10) dcl [nX, nO, nA, nF] → Ml r2 r3 r7 r0 g3 g7 gt W → Calls Tryz.prog 30 #[.pointer (some ⟨q, 0, none⟩), .agg #[.slice (some ⟨gt, 0, none⟩) 2 2], .int .i64 3] W fun e w' => ∃ u : Vl, e = .returned (.tuple #[.agg #[.int .i64 u.so, .bool u.bo, .bool u.p.s, .slice u.p.A u.p.xs.length u.p.a, .slice u.p.B u.p.ys.length u.p.b, .int .i64 u.el], .int .i64 0]) ∧ u.cn = cq 7 ∧ u.At w' ∧ u.Few ∧ Below W.heap.size W w' := fun q W r2 r3 r7 r0 g3 g7 gt h m =>
    (eval_any h (by decide) (some ⟨gt, 0, none⟩) 2 m.ts m.few (by simp) (by intro t ht; simp at ht; rcases ht with rfl | rfl <;> (show (1 : Nat) ≤ maxLen; decide)) m.ev 3 (cq 7) rfl (by decide)).mono fun e w' ⟨u, k, e1, ⟨e2, e3⟩, e4, e5, e6⟩ => by subst e3; exact ⟨u, e1, e2, e4, e5, e6⟩
  have c5 : ∀ q W, Tt [] B w W q 4 so0 (fuN 10) dcl [nX, nO, nA, nF] → Calls Tryz.prog 30 #[.pointer (some ⟨q, 0, none⟩), .agg #[.slice none 0 0], .int .i64 0] W fun e w' => ∃ u : Vl, e = .returned (.tuple #[.agg #[.int .i64 u.so, .bool u.bo, .bool u.p.s, .slice u.p.A u.p.xs.length u.p.a, .slice u.p.B u.p.ys.length u.p.b, .int .i64 u.el], .int .i64 5]) ∧ Below W.heap.size W w' := fun q W h =>
    (eval_none (tbs := []) (Z := []) h (by decide) none 0 ⟨.inl rfl, by simp⟩ (by simp) (by simp) (by simp) 0 (by decide) rfl rfl rfl).mono fun e w' ⟨u, k, e1, e2, e4, e5, e6⟩ => by subst e2; exact ⟨u, e1, e6⟩
  have c6 : ∀ q W gt, Tt [] B w W q 4 so0 (fuN 10) dcl [nX, nO, nA, nF] → Calls Tryz.prog 30 #[.pointer (some ⟨q, 0, none⟩), .agg #[.slice (some ⟨gt, 0, none⟩) 2 2], .int .i64 99] W fun e w' => e = .returned (.tuple #[.agg #[.int .i64 0, .bool false, .bool false, .slice none 0 0, .slice none 0 0, .int .i64 0], .int .i64 1]) ∧ Below W.heap.size W w' := fun q W gt h =>
    eval_no h (by decide) (some ⟨gt, 0, none⟩) 2 2 99 rfl
  have c7 : ∀ W r2 r3 r7 r0 g3 g7 gt, Ml r2 r3 r7 r0 g3 g7 gt W → Calls Tryz.prog 12 #[.agg #[.slice (some ⟨gt, 0, none⟩) 2 2], .string ⟨#[102]⟩] W fun e w' => ∃ t : Tr, e = .returned (.tuple #[.agg #[.string t.nm, .slice t.A t.l.length t.c, .int .i64 t.e.so, .bool t.e.bo, .bool t.e.p.s, .slice t.e.p.A t.e.p.xs.length t.e.p.a, .slice t.e.p.B t.e.p.ys.length t.e.p.b, .int .i64 t.e.el], .bool true]) ∧ t.l.map Rr.cn = [([cq 3], cq 7)] ∧ t.e.cn = cq 0 ∧ t.At [] w' ∧ t.Few ∧ Below W.heap.size W w' := fun W r2 r3 r7 r0 g3 g7 gt m =>
    (find_v (some ⟨gt, 0, none⟩) 2 [tbX r2, tbF g3 g7 r3 r7 r0] ⟨#[102]⟩ W m.ts m.few (by simp) _ rfl).mono fun e w' ⟨t, e1, _, e3, e4, e5, e6, e7⟩ => ⟨t, e1, e3.trans (by show [([(nmV r3).cn], (nmV r7).cn)] = _; rw [m.n3.cn, m.n7.cn]), e4.trans m.n0.cn, e5, e6, e7⟩
  replace cx := hide cx; replace c1 := hide c1; replace c2 := hide c2; replace c3 := hide c3; replace c4 := hide c4; replace c5 := hide c5; replace c6 := hide c6; replace c7 := hide c7
  clear hin2
  go_enter Tryz.func9, Tryz.ntmps9
  go_upto_region 9 with (first
    | (go_at_call 27; (with_reducible refine (ht.out).mono ?_); rintro e w1 ⟨q, z, rfl, T1⟩; replace T1 := hide T1)
    | (go_at_call 28; (with_reducible refine (cx.out _ _ T1.out).mono ?_); rintro e w2 ⟨rfl, T2⟩; replace T2 := hide T2; clear T1)
    | (go_at_call 32; (with_reducible refine (O1.out _).mono ?_); rintro e w3 ⟨p1, rfl, n1, hb⟩; have MN := hide (c1.out _ _ _ (T2.out.next hb) n1); clear T2 n1 hb)
    | (go_at_call 28; (with_reducible refine (MN.out).mono ?_); rintro e w4 ⟨rfl, T4⟩; replace T4 := hide T4; clear MN)
    | (go_at_call 28; (with_reducible refine (c2.out _ _ T4.out).mono ?_); rintro e w5 ⟨rfl, T5⟩; replace T5 := hide T5; clear T4)
    | (go_at_call 28; (with_reducible refine (c3.out _ _ T5.out).mono ?_); rintro e w6 ⟨rfl, T6⟩; replace T6 := hide T6; clear T5)
    | (go_at_call 29; (with_reducible refine (N2.out _).mono ?_); rintro e w7 ⟨r2, rfl, n2, hb⟩; have T7 := hide (T6.out.next hb); replace n2 := hide n2; clear T6 hb)
    | (go_at_call 29; (with_reducible refine (N3.out _).mono ?_); rintro e w8 ⟨r3, rfl, n3, hb⟩; have T8 := hide (T7.out.next hb); replace n2 := hide (n2.out.next hb); replace n3 := hide n3; clear T7 hb)
    | (go_at_call 29; (with_reducible refine (N7.out _).mono ?_); rintro e w9 ⟨r7, rfl, n7, hb⟩; have B3 := hide ((Bk.new #[.int .i64 1, .bool false, .bool r3.s, .slice r3.A r3.xs.length r3.a, .slice r3.B r3.ys.length r3.b, .int .i64 0] 30 w8).next hb); have g := bl_trans (bl_al (.refl _ _) (.cells #[.int .i64 1, .bool false, .bool r3.s, .slice r3.A r3.xs.length r3.a, .slice r3.B r3.ys.length r3.b, .int .i64 0] 30)) hb; have T9 := hide (T8.out.next g); replace n2 := hide (n2.out.next g); replace n3 := hide (n3.out.next g); replace n7 := hide n7; clear T8 hb g)
    | (go_at_call 29; (with_reducible refine (N0.out _).mono ?_); rintro e w10 ⟨r0, rfl, n0, hb⟩; have B7 := hide ((Bk.new #[.slice (some ⟨w8.heap.size, 0, none⟩) 1 1, .int .i64 1, .bool false, .bool r7.s, .slice r7.A r7.xs.length r7.a, .slice r7.B r7.ys.length r7.b, .int .i64 0] 76 w9).next hb); have g := bl_trans (bl_al (.refl _ _) (.cells #[.slice (some ⟨w8.heap.size, 0, none⟩) 1 1, .int .i64 1, .bool false, .bool r7.s, .slice r7.A r7.xs.length r7.a, .slice r7.B r7.ys.length r7.b, .int .i64 0] 76)) hb; replace B3 := hide (B3.out.next g); have T10 := hide (T9.out.next g); replace n2 := hide (n2.out.next g); replace n3 := hide (n3.out.next g); replace n7 := hide (n7.out.next g); replace n0 := hide n0; clear T9 hb g)
    | fail)
  have g9 : Below w10.heap.size w10 ((w10.alloc (.cells #[.string ⟨#[120]⟩, .slice none 0 0, .int .i64 1, .bool false, .bool r2.s, .slice r2.A r2.xs.length r2.a, .slice r2.B r2.ys.length r2.b, .int .i64 0, .string ⟨#[102]⟩, .slice (some ⟨w9.heap.size, 0, none⟩) 1 1, .int .i64 1, .bool false, .bool r0.s, .slice r0.A r0.xs.length r0.a, .slice r0.B r0.ys.length r0.b, .int .i64 0] 37)).alloc (.cells #[.slice (some ⟨w10.heap.size, 0, none⟩) 2 2] 24)) := bl_al (bl_al (.refl _ _) _) _
  have M9 : Hid (Ml r2 r3 r7 r0 w8.heap.size w9.heap.size w10.heap.size ((w10.alloc (.cells #[.string ⟨#[120]⟩, .slice none 0 0, .int .i64 1, .bool false, .bool r2.s, .slice r2.A r2.xs.length r2.a, .slice r2.B r2.ys.length r2.b, .int .i64 0, .string ⟨#[102]⟩, .slice (some ⟨w9.heap.size, 0, none⟩) 1 1, .int .i64 1, .bool false, .bool r0.s, .slice r0.A r0.xs.length r0.a, .slice r0.B r0.ys.length r0.b, .int .i64 0] 37)).alloc (.cells #[.slice (some ⟨w10.heap.size, 0, none⟩) 2 2] 24))) := hide ⟨n2.out.next g9, n3.out.next g9, n7.out.next g9, n0.out.next g9, B3.out.next g9, B7.out.next g9, (Bk.new _ _ w10).al _⟩
  have T9' := hide (T10.out.next g9)
  have x0 := (Bk.new1 #[.slice (some ⟨w10.heap.size, 0, none⟩) 2 2] 24 w10 (.cells #[.string ⟨#[120]⟩, .slice none 0 0, .int .i64 1, .bool false, .bool r2.s, .slice r2.A r2.xs.length r2.a, .slice r2.B r2.ys.length r2.b, .int .i64 0, .string ⟨#[102]⟩, .slice (some ⟨w9.heap.size, 0, none⟩) 1 1, .int .i64 1, .bool false, .bool r0.s, .slice r0.A r0.xs.length r0.a, .slice r0.B r0.ys.length r0.b, .int .i64 0] 37)).cell (j := 0) rfl
  clear g9 n2 n3 n7 n0 B3 B7 T10 O1 N2 N3 cx c1 c2 c3 ht
  generalize ((w10.alloc (.cells #[.string ⟨#[120]⟩, .slice none 0 0, .int .i64 1, .bool false, .bool r2.s, .slice r2.A r2.xs.length r2.a, .slice r2.B r2.ys.length r2.b, .int .i64 0, .string ⟨#[102]⟩, .slice (some ⟨w9.heap.size, 0, none⟩) 1 1, .int .i64 1, .bool false, .bool r0.s, .slice r0.A r0.xs.length r0.a, .slice r0.B r0.ys.length r0.b, .int .i64 0] 37)).alloc (.cells #[.slice (some ⟨w10.heap.size, 0, none⟩) 2 2] 24)) = W9 at *
  generalize w10.heap.size + 1 = gb at *
  generalize w10.heap.size = gt at *
  generalize w9.heap.size = g7 at *
  generalize w8.heap.size = g3 at *
  go_upto_region 13 with (first
    | (go_at_call 30; (with_reducible refine (c4.out _ _ _ _ _ _ _ _ _ T9'.out M9.out).mono ?_); rintro e w11 ⟨u, rfl, hc, aU, fU, hb⟩; have g := bl_al hb (.cells #[.int .i64 u.so, .bool u.bo, .bool u.p.s, .slice u.p.A u.p.xs.length u.p.a, .slice u.p.B u.p.ys.length u.p.b, .int .i64 u.el] 30); have U := hide (show Vx u (cq 7) (w11.alloc (.cells #[.int .i64 u.so, .bool u.bo, .bool u.p.s, .slice u.p.A u.p.xs.length u.p.a, .slice u.p.B u.p.ys.length u.p.b, .int .i64 u.el] 30)) from ⟨hc, aU.next (bl_al (.refl _ _) _), fU⟩); have BU := hide (Bk.new #[.int .i64 u.so, .bool u.bo, .bool u.p.s, .slice u.p.A u.p.xs.length u.p.a, .slice u.p.B u.p.ys.length u.p.b, .int .i64 u.el] 30 w11); replace T9' := hide (T9'.out.next g); replace M9 := hide (M9.out.next g); replace x0 := cell_next g x0; clear hb g hc aU fU c4)
    | (go_at_call 30; (with_reducible refine (c5.out _ _ T9'.out).mono ?_); rintro e w12 ⟨v, rfl, hb⟩; have g := bl_al hb (.cells #[.int .i64 v.so, .bool v.bo, .bool v.p.s, .slice v.p.A v.p.xs.length v.p.a, .slice v.p.B v.p.ys.length v.p.b, .int .i64 v.el] 30); replace U := hide (U.out.next g); replace BU := hide (BU.out.next g); replace T9' := hide (T9'.out.next g); replace M9 := hide (M9.out.next g); replace x0 := cell_next g x0; clear hb g c5)
    | (go_at_call 30; (with_reducible refine (c6.out _ _ _ T9'.out).mono ?_); rintro e w13 ⟨rfl, hb⟩; have g := bl_al hb (.cells #[.int .i64 0, .bool false, .bool false, .slice none 0 0, .slice none 0 0, .int .i64 0] 30); replace U := hide (U.out.next g); replace BU := hide (BU.out.next g); replace T9' := hide (T9'.out.next g); replace M9 := hide (M9.out.next g); replace x0 := cell_next g x0; clear hb g c6)
    | (go_at_call 12; (with_reducible refine (c7.out _ _ _ _ _ _ _ _ M9.out).mono ?_); rintro e w14 ⟨t, rfl, t1, t2, t3, t4, hb⟩; have g := bl_al hb (.cells #[.string t.nm, .slice t.A t.l.length t.c, .int .i64 t.e.so, .bool t.e.bo, .bool t.e.p.s, .slice t.e.p.A t.e.p.xs.length t.e.p.a, .slice t.e.p.B t.e.p.ys.length t.e.p.b, .int .i64 t.e.el] 37); replace U := hide (U.out.next g); replace BU := hide (BU.out.next g); replace T9' := hide (T9'.out.next g); have BT := hide (Bk.new #[.string t.nm, .slice t.A t.l.length t.c, .int .i64 t.e.so, .bool t.e.bo, .bool t.e.p.s, .slice t.e.p.A t.e.p.xs.length t.e.p.a, .slice t.e.p.B t.e.p.ys.length t.e.p.b, .int .i64 t.e.el] 37 w14); replace t1 := hide t1; replace t2 := hide t2; have t3' := hide (t3.next (bl_al (.refl _ _) (.cells #[.string t.nm, .slice t.A t.l.length t.c, .int .i64 t.e.so, .bool t.e.bo, .bool t.e.p.s, .slice t.e.p.A t.e.p.xs.length t.e.p.a, .slice t.e.p.B t.e.p.ys.length t.e.p.b, .int .i64 t.e.el] 37))); replace t4 := hide t4; clear hb g c7 x0 M9 t3)
    | fail)
  generalize w14.alloc (.cells #[.string t.nm, .slice t.A t.l.length t.c, .int .i64 t.e.so, .bool t.e.bo, .bool t.e.p.s, .slice t.e.p.A t.e.p.xs.length t.e.p.a, .slice t.e.p.B t.e.p.ys.length t.e.p.b, .int .i64 t.e.el] 37) = WZ at *
  generalize w11.heap.size = ga at *
  generalize w14.heap.size = gc at *
  have SS := hide (fun W (b : Below WZ.heap.size WZ W) => (show (W.cell? ⟨ga, 0, none⟩ = some (.int .i64 u.so) ∧ W.cell? ⟨ga, 1, none⟩ = some (.bool u.bo) ∧ W.cell? ⟨ga, 2, none⟩ = some (.bool u.p.s) ∧ W.cell? ⟨ga, 3, none⟩ = some (.slice u.p.A u.p.xs.length u.p.a) ∧ W.cell? ⟨ga, 4, none⟩ = some (.slice u.p.B u.p.ys.length u.p.b) ∧ W.cell? ⟨ga, 5, none⟩ = some (.int .i64 u.el)) ∧ (W.cell? ⟨gc, 0, none⟩ = some (.string t.nm) ∧ W.cell? ⟨gc, 1, none⟩ = some (.slice t.A t.l.length t.c) ∧ W.cell? ⟨gc, 2, none⟩ = some (.int .i64 t.e.so) ∧ W.cell? ⟨gc, 3, none⟩ = some (.bool t.e.bo) ∧ W.cell? ⟨gc, 4, none⟩ = some (.bool t.e.p.s) ∧ W.cell? ⟨gc, 5, none⟩ = some (.slice t.e.p.A t.e.p.xs.length t.e.p.a) ∧ W.cell? ⟨gc, 6, none⟩ = some (.slice t.e.p.B t.e.p.ys.length t.e.p.b) ∧ W.cell? ⟨gc, 7, none⟩ = some (.int .i64 t.e.el)) from And.intro (And.intro ((BU.out.next b).cell rfl) (And.intro ((BU.out.next b).cell rfl) (And.intro ((BU.out.next b).cell rfl) (And.intro ((BU.out.next b).cell rfl) (And.intro ((BU.out.next b).cell rfl) ((BU.out.next b).cell rfl)))))) (And.intro ((BT.out.next b).cell rfl) (And.intro ((BT.out.next b).cell rfl) (And.intro ((BT.out.next b).cell rfl) (And.intro ((BT.out.next b).cell rfl) (And.intro ((BT.out.next b).cell rfl) (And.intro ((BT.out.next b).cell rfl) (And.intro ((BT.out.next b).cell rfl) ((BT.out.next b).cell rfl)))))))))) 
  have e0 : binOp .eql 50 (.int .i64 0) (.int .i64 0) = pure (.bool true) := rfl
  have e1 : binOp .eql 50 (.int .i64 1) (.int .i64 1) = pure (.bool true) := rfl
  have e5 : binOp .eql 50 (.int .i64 5) (.int .i64 5) = pure (.bool true) := rfl
  have CZ := hide zero_e
  have CS := hide same_e
  have CM := hide msame_e
  have C3 := hide msame_3
  have CA := hide (fun W r k (nr : Nq r 1 W) (b : Below WZ.heap.size WZ W) => apply_e (Z := []) (t := t) t1.out t2.out (t3'.out.next b) t4.out r nr k)
  replace BU := hide BU.out
  have bw := T9'.out.below
  clear T9' t1 t2 t3' t4 BU BT
  have bb := bel_dr WZ
  refine wp_region_held_drew (S := fun W => (W.cell? ⟨ga, 0, none⟩ = some (.int .i64 u.so) ∧ W.cell? ⟨ga, 1, none⟩ = some (.bool u.bo) ∧ W.cell? ⟨ga, 2, none⟩ = some (.bool u.p.s) ∧ W.cell? ⟨ga, 3, none⟩ = some (.slice u.p.A u.p.xs.length u.p.a) ∧ W.cell? ⟨ga, 4, none⟩ = some (.slice u.p.B u.p.ys.length u.p.b) ∧ W.cell? ⟨ga, 5, none⟩ = some (.int .i64 u.el)) ∧ (W.cell? ⟨gc, 0, none⟩ = some (.string t.nm) ∧ W.cell? ⟨gc, 1, none⟩ = some (.slice t.A t.l.length t.c) ∧ W.cell? ⟨gc, 2, none⟩ = some (.int .i64 t.e.so) ∧ W.cell? ⟨gc, 3, none⟩ = some (.bool t.e.bo) ∧ W.cell? ⟨gc, 4, none⟩ = some (.bool t.e.p.s) ∧ W.cell? ⟨gc, 5, none⟩ = some (.slice t.e.p.A t.e.p.xs.length t.e.p.a) ∧ W.cell? ⟨gc, 6, none⟩ = some (.slice t.e.p.B t.e.p.ys.length t.e.p.b) ∧ W.cell? ⟨gc, 7, none⟩ = some (.int .i64 t.e.el))) (by kernel_rfl) ?_ (fun hHeld => ?_)
  · (try dsimp only)
    with_reducible exact SS.out _ (bel_dr WZ)
  refine wpAnyH_take (i := 0) (v := ?vv0) (by (simp only [List.getElem?_toArray, List.getElem?_cons_zero, List.getElem?_cons_succ]) <;> rfl) (by kernel_rfl) (by kernel_rfl) (by kernel_rfl) ?hq0 (Or.inl ⟨by rfl, ?hy0⟩) (by assumption) ?_
  case hq0 => exact fun _ _ _ h => h
  case hy0 => ((intro w hSw; (try dsimp only at hSw); go_simp) <;> (with_reducible rfl))
  (try simp only [Act.put, List.setIfInBounds_toArray, List.set_cons_zero, List.set_cons_succ])
  refine wpAnyH_take (i := 1) (v := ?vv1) (by (simp only [List.getElem?_toArray, List.getElem?_cons_zero, List.getElem?_cons_succ]) <;> rfl) (by kernel_rfl) (by kernel_rfl) (by kernel_rfl) ?hq1 (Or.inl ⟨by rfl, ?hy1⟩) (by assumption) ?_
  case hq1 => exact fun _ _ _ h => h
  case hy1 => ((intro w hSw; (try dsimp only at hSw); go_simp) <;> (with_reducible rfl))
  (try simp only [Act.put, List.setIfInBounds_toArray, List.set_cons_zero, List.set_cons_succ])
  refine wpAnyH_take (i := 2) (v := ?vv2) (by (simp only [List.getElem?_toArray, List.getElem?_cons_zero, List.getElem?_cons_succ]) <;> rfl) (by kernel_rfl) (by kernel_rfl) (by kernel_rfl) ?hq2 (Or.inl ⟨by rfl, ?hy2⟩) (by assumption) ?_
  case hq2 => exact fun _ _ _ h => h
  case hy2 => ((intro w hSw; (try dsimp only at hSw); go_simp) <;> (with_reducible rfl))
  (try simp only [Act.put, List.setIfInBounds_toArray, List.set_cons_zero, List.set_cons_succ])
  refine wpAnyH_take (i := 3) (v := ?vv3) (by (simp only [List.getElem?_toArray, List.getElem?_cons_zero, List.getElem?_cons_succ]) <;> rfl) (by kernel_rfl) (by kernel_rfl) (by kernel_rfl) ?hq3 (Or.inl ⟨by rfl, ?hy3⟩) (by assumption) ?_
  case hq3 => exact fun _ _ _ h => h
  case hy3 => ((intro w hSw; (try dsimp only at hSw); go_simp) <;> (with_reducible rfl))
  (try simp only [Act.put, List.setIfInBounds_toArray, List.set_cons_zero, List.set_cons_succ])
  refine wpAnyH_take (i := 4) (v := ?vv4) (by (simp only [List.getElem?_toArray, List.getElem?_cons_zero, List.getElem?_cons_succ]) <;> rfl) (by kernel_rfl) (by kernel_rfl) (by kernel_rfl) ?hq4 (Or.inl ⟨by rfl, ?hy4⟩) (by assumption) ?_
  case hq4 => exact fun _ _ _ h => h
  case hy4 => ((intro w hSw; (try dsimp only at hSw); go_simp) <;> (with_reducible rfl))
  (try simp only [Act.put, List.setIfInBounds_toArray, List.set_cons_zero, List.set_cons_succ])
  refine wpAnyH_take (i := 5) (v := ?vv5) (by (simp only [List.getElem?_toArray, List.getElem?_cons_zero, List.getElem?_cons_succ]) <;> rfl) (by kernel_rfl) (by kernel_rfl) (by kernel_rfl) ?hq5 (Or.inl ⟨by rfl, ?hy5⟩) (by assumption) ?_
  case hq5 => exact fun _ _ _ h => h
  case hy5 => ((intro w hSw; (try dsimp only at hSw); go_simp) <;> (with_reducible rfl))
  (try simp only [Act.put, List.setIfInBounds_toArray, List.set_cons_zero, List.set_cons_succ])
  refine wpAnyH_take (i := 6) (v := ?vv6) (by (simp only [List.getElem?_toArray, List.getElem?_cons_zero, List.getElem?_cons_succ]) <;> rfl) (by kernel_rfl) (by kernel_rfl) (by kernel_rfl) ?hq6 (Or.inl ⟨by rfl, ?hy6⟩) (by assumption) ?_
  case hq6 => exact fun _ _ _ h => h
  case hy6 => ((intro w hSw; (try dsimp only at hSw); go_simp) <;> (with_reducible rfl))
  (try simp only [Act.put, List.setIfInBounds_toArray, List.set_cons_zero, List.set_cons_succ])
  refine wpAnyH_take (i := 7) (v := ?vv7) (by (simp only [List.getElem?_toArray, List.getElem?_cons_zero, List.getElem?_cons_succ]) <;> rfl) (by kernel_rfl) (by kernel_rfl) (by kernel_rfl) ?hq7 (Or.inl ⟨by rfl, ?hy7⟩) (by assumption) ?_
  case hq7 => exact fun _ _ _ h => h
  case hy7 => ((intro w hSw; (try dsimp only at hSw); go_simp) <;> (with_reducible rfl))
  (try simp only [Act.put, List.setIfInBounds_toArray, List.set_cons_zero, List.set_cons_succ])
  refine wpAnyH_take (i := 8) (v := ?vv8) (by (simp only [List.getElem?_toArray, List.getElem?_cons_zero, List.getElem?_cons_succ]) <;> rfl) (by kernel_rfl) (by kernel_rfl) (by kernel_rfl) ?hq8 (Or.inl ⟨by rfl, ?hy8⟩) (by assumption) ?_
  case hq8 => exact fun _ _ _ h => h
  case hy8 => ((intro w hSw; (try dsimp only at hSw); go_simp) <;> (with_reducible rfl))
  (try simp only [Act.put, List.setIfInBounds_toArray, List.set_cons_zero, List.set_cons_succ])
  refine wpAnyH_take (i := 9) (v := ?vv9) (by (simp only [List.getElem?_toArray, List.getElem?_cons_zero, List.getElem?_cons_succ]) <;> rfl) (by kernel_rfl) (by kernel_rfl) (by kernel_rfl) ?hq9 (Or.inl ⟨by rfl, ?hy9⟩) (by assumption) ?_
  case hq9 => exact fun _ _ _ h => h
  case hy9 => ((intro w hSw; (try dsimp only at hSw); go_simp) <;> (with_reducible rfl))
  (try simp only [Act.put, List.setIfInBounds_toArray, List.set_cons_zero, List.set_cons_succ])
  refine wpAnyH_take (i := 10) (v := ?vv10) (by (simp only [List.getElem?_toArray, List.getElem?_cons_zero, List.getElem?_cons_succ]) <;> rfl) (by kernel_rfl) (by kernel_rfl) (by kernel_rfl) ?hq10 (Or.inl ⟨by rfl, ?hy10⟩) (by assumption) ?_
  case hq10 => exact fun _ _ _ h => h
  case hy10 => ((intro w hSw; (try dsimp only at hSw); go_simp) <;> (with_reducible rfl))
  (try simp only [Act.put, List.setIfInBounds_toArray, List.set_cons_zero, List.set_cons_succ])
  refine wpAnyH_take (i := 11) (v := ?vv11) (by (simp only [List.getElem?_toArray, List.getElem?_cons_zero, List.getElem?_cons_succ]) <;> rfl) (by kernel_rfl) (by kernel_rfl) (by kernel_rfl) ?hq11 (Or.inl ⟨by rfl, ?hy11⟩) (by assumption) ?_
  case hq11 => exact fun _ _ _ h => h
  case hy11 => ((intro w hSw; (try dsimp only at hSw); go_simp) <;> (with_reducible rfl))
  (try simp only [Act.put, List.setIfInBounds_toArray, List.set_cons_zero, List.set_cons_succ])
  refine wpAnyH_take (i := 12) (v := ?vv12) (by (simp only [List.getElem?_toArray, List.getElem?_cons_zero, List.getElem?_cons_succ]) <;> rfl) (by kernel_rfl) (by kernel_rfl) (by kernel_rfl) ?hq12 (Or.inl ⟨by rfl, ?hy12⟩) (by assumption) ?_
  case hq12 => exact fun _ _ _ h => h
  case hy12 => ((intro w hSw; (try dsimp only at hSw); go_simp) <;> (with_reducible rfl))
  (try simp only [Act.put, List.setIfInBounds_toArray, List.set_cons_zero, List.set_cons_succ])
  refine wpAnyH_take (i := 13) (v := ?vv13) (by (simp only [List.getElem?_toArray, List.getElem?_cons_zero, List.getElem?_cons_succ]) <;> rfl) (by kernel_rfl) (by kernel_rfl) (by kernel_rfl) ?hq13 (Or.inl ⟨by rfl, ?hy13⟩) (by assumption) ?_
  case hq13 => exact fun _ _ _ h => h
  case hy13 => ((intro w hSw; (try dsimp only at hSw); go_simp) <;> (with_reducible rfl))
  (try simp only [Act.put, List.setIfInBounds_toArray, List.set_cons_zero, List.set_cons_succ])
  refine wpAnyH_take (i := 14) (v := ?vv14) (by (simp only [List.getElem?_toArray, List.getElem?_cons_zero, List.getElem?_cons_succ]) <;> rfl) (by kernel_rfl) (by kernel_rfl) (by kernel_rfl) ?hq14 (Or.inl ⟨by rfl, ?hy14⟩) (by assumption) ?_
  case hq14 => exact fun _ _ _ h => h
  case hy14 => ((intro w hSw; (try dsimp only at hSw); go_simp) <;> (with_reducible rfl))
  (try simp only [Act.put, List.setIfInBounds_toArray, List.set_cons_zero, List.set_cons_succ])
  refine wpAnyH_take (i := 15) (v := ?vv15) (by (simp only [List.getElem?_toArray, List.getElem?_cons_zero, List.getElem?_cons_succ]) <;> rfl) (by kernel_rfl) (by kernel_rfl) (by kernel_rfl) ?hq15 (Or.inl ⟨by rfl, ?hy15⟩) (by assumption) ?_
  case hq15 => exact fun _ _ _ h => h
  case hy15 => ((intro w hSw; (try dsimp only at hSw); go_simp) <;> (with_reducible rfl))
  (try simp only [Act.put, List.setIfInBounds_toArray, List.set_cons_zero, List.set_cons_succ])
  refine wpAnyH_take (i := 16) (v := ?vv16) (by (simp only [List.getElem?_toArray, List.getElem?_cons_zero, List.getElem?_cons_succ]) <;> rfl) (by kernel_rfl) (by kernel_rfl) (by kernel_rfl) ?hq16 (Or.inl ⟨by rfl, ?hy16⟩) (by assumption) ?_
  case hq16 => exact fun _ _ _ h => h
  case hy16 => ((intro w hSw; (try dsimp only at hSw); go_simp) <;> (with_reducible rfl))
  (try simp only [Act.put, List.setIfInBounds_toArray, List.set_cons_zero, List.set_cons_succ])
  refine wpAnyH_take (i := 17) (v := ?vv17) (by (simp only [List.getElem?_toArray, List.getElem?_cons_zero, List.getElem?_cons_succ]) <;> rfl) (by kernel_rfl) (by kernel_rfl) (by kernel_rfl) ?hq17 (Or.inl ⟨by rfl, ?hy17⟩) (by assumption) ?_
  case hq17 => exact fun _ _ _ h => h
  case hy17 => ((intro w hSw; (try dsimp only at hSw); go_simp) <;> (with_reducible rfl))
  (try simp only [Act.put, List.setIfInBounds_toArray, List.set_cons_zero, List.set_cons_succ])
  refine wpAnyH_take (i := 18) (v := ?vv18) (by (simp only [List.getElem?_toArray, List.getElem?_cons_zero, List.getElem?_cons_succ]) <;> rfl) (by kernel_rfl) (by kernel_rfl) (by kernel_rfl) ?hq18 (Or.inl ⟨by rfl, ?hy18⟩) (by assumption) ?_
  case hq18 => exact fun _ _ _ h => h
  case hy18 => ((intro w hSw; (try dsimp only at hSw); go_simp) <;> (with_reducible rfl))
  (try simp only [Act.put, List.setIfInBounds_toArray, List.set_cons_zero, List.set_cons_succ])
  refine wpAnyH_take (i := 19) (v := ?vv19) (by (simp only [List.getElem?_toArray, List.getElem?_cons_zero, List.getElem?_cons_succ]) <;> rfl) (by kernel_rfl) (by kernel_rfl) (by kernel_rfl) ?hq19 (Or.inl ⟨by rfl, ?hy19⟩) (by assumption) ?_
  case hq19 => exact fun _ _ _ h => h
  case hy19 => ((intro w hSw; (try dsimp only at hSw); go_simp) <;> (with_reducible rfl))
  (try simp only [Act.put, List.setIfInBounds_toArray, List.set_cons_zero, List.set_cons_succ])
  refine wpAnyH_ready (rs := [20]) (by kernel_rfl) (by simp) ?_
  refine AllReadyH.cons (by (simp only [List.getElem?_toArray, List.getElem?_cons_zero, List.getElem?_cons_succ]) <;> rfl) (fun K hK => ?_) AllReadyH.nil
  go_simp
  (go_at_call 29; (with_reducible refine (N7.out _).mono ?_); rintro e wz ⟨r, rfl, nr, hb⟩; replace bb := bl_trans bb hb; have SM := hide (CS.out u r (cq 7) 7 wz (U.out.next bb) nr rfl); clear nr; clear hb)
  (try go_wp2_with fail)
  refine hK.out _ _ ?_ (fun hHeld => ?_)
  · (try dsimp only)
    with_reducible exact SS.out _ bb
  (try clear hK K)
  (try simp only [Act.put, List.setIfInBounds_toArray, List.set_cons_zero, List.set_cons_succ])
  refine wpAnyH_ready (rs := [21]) (by kernel_rfl) (by simp) ?_
  refine AllReadyH.cons (by (simp only [List.getElem?_toArray, List.getElem?_cons_zero, List.getElem?_cons_succ]) <;> rfl) (fun K hK => ?_) AllReadyH.nil
  go_simp
  (go_at_call 14; (with_reducible refine (SM.out).mono ?_); rintro e wz ⟨rfl, hb⟩; replace bb := bl_trans bb hb; clear hb SM)
  (try go_wp2_with fail)
  refine hK.out _ _ ?_ (fun hHeld => ?_)
  · (try dsimp only)
    with_reducible exact SS.out _ bb
  (try clear hK K)
  (try simp only [Act.put, List.setIfInBounds_toArray, List.set_cons_zero, List.set_cons_succ])
  refine wpAnyH_take (i := 22) (v := ?vv22) (by (simp only [List.getElem?_toArray, List.getElem?_cons_zero, List.getElem?_cons_succ]) <;> rfl) (by kernel_rfl) (by kernel_rfl) (by kernel_rfl) ?hq22 (Or.inl ⟨by rfl, ?hy22⟩) (by assumption) ?_
  case hq22 => exact fun _ _ _ h => h
  case hy22 => ((intro w hSw; (try dsimp only at hSw); go_simp) <;> (with_reducible rfl))
  (try simp only [Act.put, List.setIfInBounds_toArray, List.set_cons_zero, List.set_cons_succ])
  refine wpAnyH_take (i := 23) (v := ?vv23) (by (simp only [List.getElem?_toArray, List.getElem?_cons_zero, List.getElem?_cons_succ]) <;> rfl) (by kernel_rfl) (by kernel_rfl) (by kernel_rfl) ?hq23 (Or.inl ⟨by rfl, ?hy23⟩) (by assumption) ?_
  case hq23 => exact fun _ _ _ h => h
  case hy23 => ((intro w hSw; (try dsimp only at hSw); go_simp) <;> (with_reducible rfl))
  (try simp only [Act.put, List.setIfInBounds_toArray, List.set_cons_zero, List.set_cons_succ])
  refine wpAnyH_take (i := 24) (v := ?vv24) (by (simp only [List.getElem?_toArray, List.getElem?_cons_zero, List.getElem?_cons_succ]) <;> rfl) (by kernel_rfl) (by kernel_rfl) (by kernel_rfl) ?hq24 (Or.inl ⟨by rfl, ?hy24⟩) (by assumption) ?_
  case hq24 => exact fun _ _ _ h => h
  case hy24 => ((intro w hSw; (try dsimp only at hSw); go_simp) <;> (with_reducible rfl))
  (try simp only [Act.put, List.setIfInBounds_toArray, List.set_cons_zero, List.set_cons_succ])
  refine wpAnyH_take (i := 25) (v := ?vv25) (by (simp only [List.getElem?_toArray, List.getElem?_cons_zero, List.getElem?_cons_succ]) <;> rfl) (by kernel_rfl) (by kernel_rfl) (by kernel_rfl) ?hq25 (Or.inl ⟨by rfl, ?hy25⟩) (by assumption) ?_
  case hq25 => exact fun _ _ _ h => h
  case hy25 => ((intro w hSw; (try dsimp only at hSw); go_simp) <;> (with_reducible rfl))
  (try simp only [Act.put, List.setIfInBounds_toArray, List.set_cons_zero, List.set_cons_succ])
  refine wpAnyH_take (i := 26) (v := ?vv26) (by (simp only [List.getElem?_toArray, List.getElem?_cons_zero, List.getElem?_cons_succ]) <;> rfl) (by kernel_rfl) (by kernel_rfl) (by kernel_rfl) ?hq26 (Or.inl ⟨by rfl, ?hy26⟩) (by assumption) ?_
  case hq26 => exact fun _ _ _ h => h
  case hy26 => ((intro w hSw; (try dsimp only at hSw); go_simp) <;> (with_reducible rfl))
  (try simp only [Act.put, List.setIfInBounds_toArray, List.set_cons_zero, List.set_cons_succ])
  refine wpAnyH_take (i := 27) (v := ?vv27) (by (simp only [List.getElem?_toArray, List.getElem?_cons_zero, List.getElem?_cons_succ]) <;> rfl) (by kernel_rfl) (by kernel_rfl) (by kernel_rfl) ?hq27 (Or.inl ⟨by rfl, ?hy27⟩) (by assumption) ?_
  case hq27 => exact fun _ _ _ h => h
  case hy27 => ((intro w hSw; (try dsimp only at hSw); go_simp) <;> (with_reducible rfl))
  (try simp only [Act.put, List.setIfInBounds_toArray, List.set_cons_zero, List.set_cons_succ])
  refine wpAnyH_take (i := 28) (v := ?vv28) (by (simp only [List.getElem?_toArray, List.getElem?_cons_zero, List.getElem?_cons_succ]) <;> rfl) (by kernel_rfl) (by kernel_rfl) (by kernel_rfl) ?hq28 (Or.inl ⟨by rfl, ?hy28⟩) (by assumption) ?_
  case hq28 => exact fun _ _ _ h => h
  case hy28 => ((intro w hSw; (try dsimp only at hSw); go_simp) <;> (with_reducible rfl))
  (try simp only [Act.put, List.setIfInBounds_toArray, List.set_cons_zero, List.set_cons_succ])
  refine wpAnyH_take (i := 29) (v := ?vv29) (by (simp only [List.getElem?_toArray, List.getElem?_cons_zero, List.getElem?_cons_succ]) <;> rfl) (by kernel_rfl) (by kernel_rfl) (by kernel_rfl) ?hq29 (Or.inl ⟨by rfl, ?hy29⟩) (by assumption) ?_
  case hq29 => exact fun _ _ _ h => h
  case hy29 => ((intro w hSw; (try dsimp only at hSw); go_simp) <;> (with_reducible rfl))
  (try simp only [Act.put, List.setIfInBounds_toArray, List.set_cons_zero, List.set_cons_succ])
  refine wpAnyH_take (i := 30) (v := ?vv30) (by (simp only [List.getElem?_toArray, List.getElem?_cons_zero, List.getElem?_cons_succ]) <;> rfl) (by kernel_rfl) (by kernel_rfl) (by kernel_rfl) ?hq30 (Or.inl ⟨by rfl, ?hy30⟩) (by assumption) ?_
  case hq30 => exact fun _ _ _ h => h
  case hy30 => ((intro w hSw; (try dsimp only at hSw); go_simp) <;> (with_reducible rfl))
  (try simp only [Act.put, List.setIfInBounds_toArray, List.set_cons_zero, List.set_cons_succ])
  refine wpAnyH_take (i := 31) (v := ?vv31) (by (simp only [List.getElem?_toArray, List.getElem?_cons_zero, List.getElem?_cons_succ]) <;> rfl) (by kernel_rfl) (by kernel_rfl) (by kernel_rfl) ?hq31 (Or.inl ⟨by rfl, ?hy31⟩) (by assumption) ?_
  case hq31 => exact fun _ _ _ h => h
  case hy31 => ((intro w hSw; (try dsimp only at hSw); go_simp) <;> (with_reducible rfl))
  (try simp only [Act.put, List.setIfInBounds_toArray, List.set_cons_zero, List.set_cons_succ])
  refine wpAnyH_take (i := 32) (v := ?vv32) (by (simp only [List.getElem?_toArray, List.getElem?_cons_zero, List.getElem?_cons_succ]) <;> rfl) (by kernel_rfl) (by kernel_rfl) (by kernel_rfl) ?hq32 (Or.inl ⟨by rfl, ?hy32⟩) (by assumption) ?_
  case hq32 => exact fun _ _ _ h => h
  case hy32 => ((intro w hSw; (try dsimp only at hSw); go_simp) <;> (with_reducible rfl))
  (try simp only [Act.put, List.setIfInBounds_toArray, List.set_cons_zero, List.set_cons_succ])
  refine wpAnyH_take (i := 33) (v := ?vv33) (by (simp only [List.getElem?_toArray, List.getElem?_cons_zero, List.getElem?_cons_succ]) <;> rfl) (by kernel_rfl) (by kernel_rfl) (by kernel_rfl) ?hq33 (Or.inl ⟨by rfl, ?hy33⟩) (by assumption) ?_
  case hq33 => exact fun _ _ _ h => h
  case hy33 => ((intro w hSw; (try dsimp only at hSw); go_simp) <;> (with_reducible rfl))
  (try simp only [Act.put, List.setIfInBounds_toArray, List.set_cons_zero, List.set_cons_succ])
  refine wpAnyH_take (i := 34) (v := ?vv34) (by (simp only [List.getElem?_toArray, List.getElem?_cons_zero, List.getElem?_cons_succ]) <;> rfl) (by kernel_rfl) (by kernel_rfl) (by kernel_rfl) ?hq34 (Or.inl ⟨by rfl, ?hy34⟩) (by assumption) ?_
  case hq34 => exact fun _ _ _ h => h
  case hy34 => ((intro w hSw; (try dsimp only at hSw); go_simp) <;> (with_reducible rfl))
  (try simp only [Act.put, List.setIfInBounds_toArray, List.set_cons_zero, List.set_cons_succ])
  refine wpAnyH_take (i := 35) (v := ?vv35) (by (simp only [List.getElem?_toArray, List.getElem?_cons_zero, List.getElem?_cons_succ]) <;> rfl) (by kernel_rfl) (by kernel_rfl) (by kernel_rfl) ?hq35 (Or.inl ⟨by rfl, ?hy35⟩) (by assumption) ?_
  case hq35 => exact fun _ _ _ h => h
  case hy35 => ((intro w hSw; (try dsimp only at hSw); go_simp) <;> (with_reducible rfl))
  (try simp only [Act.put, List.setIfInBounds_toArray, List.set_cons_zero, List.set_cons_succ])
  refine wpAnyH_ready (rs := [36]) (by kernel_rfl) (by simp) ?_
  refine AllReadyH.cons (by (simp only [List.getElem?_toArray, List.getElem?_cons_zero, List.getElem?_cons_succ]) <;> rfl) (fun K hK => ?_) AllReadyH.nil
  go_simp
  (go_at_call 29; (with_reducible refine (N1.out _).mono ?_); rintro e wz ⟨r, rfl, nr, hb⟩; replace bb := bl_trans bb hb; have AP := hide (CA.out wz r 1 nr bb); clear nr; clear hb)
  (try go_wp2_with fail)
  refine hK.out _ _ ?_ (fun hHeld => ?_)
  · (try dsimp only)
    with_reducible exact SS.out _ bb
  (try clear hK K)
  (try simp only [Act.put, List.setIfInBounds_toArray, List.set_cons_zero, List.set_cons_succ])
  refine wpAnyH_ready (rs := [37]) (by kernel_rfl) (by simp) ?_
  refine AllReadyH.cons (by (simp only [List.getElem?_toArray, List.getElem?_cons_zero, List.getElem?_cons_succ]) <;> rfl) (fun K hK => ?_) AllReadyH.nil
  go_simp
  refine hK.out _ _ ?_ (fun hHeld => ?_)
  · (try dsimp only)
    with_reducible exact SS.out _ (bl_al bb _)
  (try clear hK K)
  (try simp only [Act.put, List.setIfInBounds_toArray, List.set_cons_zero, List.set_cons_succ])
  refine wpAnyH_ready (rs := [38]) (by kernel_rfl) (by simp) ?_
  refine AllReadyH.cons (by (simp only [List.getElem?_toArray, List.getElem?_cons_zero, List.getElem?_cons_succ]) <;> rfl) (fun K hK => ?_) AllReadyH.nil
  go_simp
  (go_at_call 15; (with_reducible refine (AP.out).mono ?_); rintro e wz ⟨v, rfl, V, hb⟩; replace bb := bl_trans (bl_al bb _) hb; clear hb AP CA; replace V := hide V)
  (try go_wp2_with fail)
  refine hK.out _ _ ?_ (fun hHeld => ?_)
  · (try dsimp only)
    with_reducible exact SS.out _ bb
  (try clear hK K)
  (try simp only [Act.put, List.setIfInBounds_toArray, List.set_cons_zero, List.set_cons_succ])
  as_aux_lemma =>
    refine wpAnyH_ready (rs := [39]) (by kernel_rfl) (by simp) ?_
    refine AllReadyH.cons (by (simp only [List.getElem?_toArray, List.getElem?_cons_zero, List.getElem?_cons_succ]) <;> rfl) (fun K hK => ?_) AllReadyH.nil
    go_simp
    (go_at_call 29; (with_reducible refine (N0.out _).mono ?_); rintro e wz ⟨r, rfl, nr, hb⟩; replace bb := bl_trans bb hb; have SM := hide (CS.out v r (cq 0) 0 wz (V.out.next hb) nr rfl); clear nr V; clear hb)
    (try go_wp2_with fail)
    refine hK.out _ _ ?_ (fun hHeld => ?_)
    · (try dsimp only)
      with_reducible exact SS.out _ bb
    (try clear hK K)
    (try simp only [Act.put, List.setIfInBounds_toArray, List.set_cons_zero, List.set_cons_succ])
    refine wpAnyH_ready (rs := [40]) (by kernel_rfl) (by simp) ?_
    refine AllReadyH.cons (by (simp only [List.getElem?_toArray, List.getElem?_cons_zero, List.getElem?_cons_succ]) <;> rfl) (fun K hK => ?_) AllReadyH.nil
    go_simp
    (go_at_call 14; (with_reducible refine (SM.out).mono ?_); rintro e wz ⟨rfl, hb⟩; replace bb := bl_trans bb hb; clear hb SM)
    (try go_wp2_with fail)
    refine hK.out _ _ ?_ (fun hHeld => ?_)
    · (try dsimp only)
      with_reducible exact SS.out _ bb
    (try clear hK K)
    (try simp only [Act.put, List.setIfInBounds_toArray, List.set_cons_zero, List.set_cons_succ])
    as_aux_lemma =>
      refine wpAnyH_take (i := 41) (v := ?vv41) (by (simp only [List.getElem?_toArray, List.getElem?_cons_zero, List.getElem?_cons_succ]) <;> rfl) (by kernel_rfl) (by kernel_rfl) (by kernel_rfl) ?hq41 (Or.inl ⟨by rfl, ?hy41⟩) (by assumption) ?_
      case hq41 => exact fun _ _ _ h => h
      case hy41 => ((intro w hSw; (try dsimp only at hSw); go_simp) <;> (with_reducible rfl))
      (try simp only [Act.put, List.setIfInBounds_toArray, List.set_cons_zero, List.set_cons_succ])
      refine wpAnyH_take (i := 42) (v := ?vv42) (by (simp only [List.getElem?_toArray, List.getElem?_cons_zero, List.getElem?_cons_succ]) <;> rfl) (by kernel_rfl) (by kernel_rfl) (by kernel_rfl) ?hq42 (Or.inl ⟨by rfl, ?hy42⟩) (by assumption) ?_
      case hq42 => exact fun _ _ _ h => h
      case hy42 => ((intro w hSw; (try dsimp only at hSw); go_simp) <;> (with_reducible rfl))
      (try simp only [Act.put, List.setIfInBounds_toArray, List.set_cons_zero, List.set_cons_succ])
      refine wpAnyH_ready (rs := [43]) (by kernel_rfl) (by simp) ?_
      refine AllReadyH.cons (by (simp only [List.getElem?_toArray, List.getElem?_cons_zero, List.getElem?_cons_succ]) <;> rfl) (fun K hK => ?_) AllReadyH.nil
      go_simp
      (go_at_call 17; (with_reducible refine (CZ.out _).mono ?_); rintro e wz ⟨v, rfl, V, hb⟩; replace bb := bl_trans bb hb; clear hb CZ; replace V := hide V)
      (try go_wp2_with fail)
      refine hK.out _ _ ?_ (fun hHeld => ?_)
      · (try dsimp only)
        with_reducible exact SS.out _ bb
      (try clear hK K)
      (try simp only [Act.put, List.setIfInBounds_toArray, List.set_cons_zero, List.set_cons_succ])
      refine wpAnyH_ready (rs := [44]) (by kernel_rfl) (by simp) ?_
      refine AllReadyH.cons (by (simp only [List.getElem?_toArray, List.getElem?_cons_zero, List.getElem?_cons_succ]) <;> rfl) (fun K hK => ?_) AllReadyH.nil
      go_simp
      (go_at_call 29; (with_reducible refine (N0.out _).mono ?_); rintro e wz ⟨r, rfl, nr, hb⟩; replace bb := bl_trans bb hb; have SM := hide (CS.out v r (cq 0) 0 wz (V.out.next hb) nr rfl); clear nr V; clear hb)
      (try go_wp2_with fail)
      refine hK.out _ _ ?_ (fun hHeld => ?_)
      · (try dsimp only)
        with_reducible exact SS.out _ bb
      (try clear hK K)
      (try simp only [Act.put, List.setIfInBounds_toArray, List.set_cons_zero, List.set_cons_succ])
      as_aux_lemma =>
        refine wpAnyH_ready (rs := [45]) (by kernel_rfl) (by simp) ?_
        refine AllReadyH.cons (by (simp only [List.getElem?_toArray, List.getElem?_cons_zero, List.getElem?_cons_succ]) <;> rfl) (fun K hK => ?_) AllReadyH.nil
        go_simp
        (go_at_call 14; (with_reducible refine (SM.out).mono ?_); rintro e wz ⟨rfl, hb⟩; replace bb := bl_trans bb hb; clear hb SM)
        (try go_wp2_with fail)
        refine hK.out _ _ ?_ (fun hHeld => ?_)
        · (try dsimp only)
          with_reducible exact SS.out _ bb
        (try clear hK K)
        (try simp only [Act.put, List.setIfInBounds_toArray, List.set_cons_zero, List.set_cons_succ])
        refine wpAnyH_take (i := 46) (v := ?vv46) (by (simp only [List.getElem?_toArray, List.getElem?_cons_zero, List.getElem?_cons_succ]) <;> rfl) (by kernel_rfl) (by kernel_rfl) (by kernel_rfl) ?hq46 (Or.inl ⟨by rfl, ?hy46⟩) (by assumption) ?_
        case hq46 => exact fun _ _ _ h => h
        case hy46 => ((intro w hSw; (try dsimp only at hSw); go_simp) <;> (with_reducible rfl))
        (try simp only [Act.put, List.setIfInBounds_toArray, List.set_cons_zero, List.set_cons_succ])
        refine wpAnyH_take (i := 47) (v := ?vv47) (by (simp only [List.getElem?_toArray, List.getElem?_cons_zero, List.getElem?_cons_succ]) <;> rfl) (by kernel_rfl) (by kernel_rfl) (by kernel_rfl) ?hq47 (Or.inl ⟨by rfl, ?hy47⟩) (by assumption) ?_
        case hq47 => exact fun _ _ _ h => h
        case hy47 => ((intro w hSw; (try dsimp only at hSw); go_simp) <;> (with_reducible rfl))
        (try simp only [Act.put, List.setIfInBounds_toArray, List.set_cons_zero, List.set_cons_succ])
        refine wpAnyH_ready (rs := [48]) (by kernel_rfl) (by simp) ?_
        refine AllReadyH.cons (by (simp only [List.getElem?_toArray, List.getElem?_cons_zero, List.getElem?_cons_succ]) <;> rfl) (fun K hK => ?_) AllReadyH.nil
        go_simp
        (go_at_call 29; (with_reducible refine (NH.out _).mono ?_); rintro e wz ⟨r, rfl, nr, hb⟩; replace bb := bl_trans bb hb; replace nr := hide nr; clear hb)
        (try go_wp2_with fail)
        refine hK.out _ _ ?_ (fun hHeld => ?_)
        · (try dsimp only)
          with_reducible exact SS.out _ bb
        (try clear hK K)
        (try simp only [Act.put, List.setIfInBounds_toArray, List.set_cons_zero, List.set_cons_succ])
        as_aux_lemma =>
          refine wpAnyH_ready (rs := [49]) (by kernel_rfl) (by simp) ?_
          refine AllReadyH.cons (by (simp only [List.getElem?_toArray, List.getElem?_cons_zero, List.getElem?_cons_succ]) <;> rfl) (fun K hK => ?_) AllReadyH.nil
          go_simp
          (go_at_call 29; (with_reducible refine (NH.out _).mono ?_); rintro e wz ⟨r', rfl, nr', hb⟩; replace bb := bl_trans bb hb; have SM := hide (CM.out r r' (1 / 2) wz (nr.out.next hb) nr'); clear hb nr nr')
          (try go_wp2_with fail)
          refine hK.out _ _ ?_ (fun hHeld => ?_)
          · (try dsimp only)
            with_reducible exact SS.out _ bb
          (try clear hK K)
          (try simp only [Act.put, List.setIfInBounds_toArray, List.set_cons_zero, List.set_cons_succ])
          refine wpAnyH_ready (rs := [50]) (by kernel_rfl) (by simp) ?_
          refine AllReadyH.cons (by (simp only [List.getElem?_toArray, List.getElem?_cons_zero, List.getElem?_cons_succ]) <;> rfl) (fun K hK => ?_) AllReadyH.nil
          go_simp
          (go_at_call 10; (with_reducible refine (SM.out).mono ?_); rintro e wz ⟨rfl, hb⟩; replace bb := bl_trans bb hb; clear hb SM)
          (try go_wp2_with fail)
          refine hK.out _ _ ?_ (fun hHeld => ?_)
          · (try dsimp only)
            with_reducible exact SS.out _ bb
          (try clear hK K)
          (try simp only [Act.put, List.setIfInBounds_toArray, List.set_cons_zero, List.set_cons_succ])
          as_aux_lemma =>
            refine wpAnyH_take (i := 51) (v := ?vv51) (by (simp only [List.getElem?_toArray, List.getElem?_cons_zero, List.getElem?_cons_succ]) <;> rfl) (by kernel_rfl) (by kernel_rfl) (by kernel_rfl) ?hq51 (Or.inl ⟨by rfl, ?hy51⟩) (by assumption) ?_
            case hq51 => exact fun _ _ _ h => h
            case hy51 => ((intro w hSw; (try dsimp only at hSw); go_simp) <;> (with_reducible rfl))
            (try simp only [Act.put, List.setIfInBounds_toArray, List.set_cons_zero, List.set_cons_succ])
            refine wpAnyH_take (i := 52) (v := ?vv52) (by (simp only [List.getElem?_toArray, List.getElem?_cons_zero, List.getElem?_cons_succ]) <;> rfl) (by kernel_rfl) (by kernel_rfl) (by kernel_rfl) ?hq52 (Or.inl ⟨by rfl, ?hy52⟩) (by assumption) ?_
            case hq52 => exact fun _ _ _ h => h
            case hy52 => ((intro w hSw; (try dsimp only at hSw); go_simp) <;> (with_reducible rfl))
            (try simp only [Act.put, List.setIfInBounds_toArray, List.set_cons_zero, List.set_cons_succ])
            refine wpAnyH_take (i := 54) (v := ?vv54) (by (simp only [List.getElem?_toArray, List.getElem?_cons_zero, List.getElem?_cons_succ]) <;> rfl) (by kernel_rfl) (by kernel_rfl) (by kernel_rfl) ?hq54 (Or.inl ⟨by rfl, ?hy54⟩) (by assumption) ?_
            case hq54 => exact fun _ _ _ h => h
            case hy54 => ((intro w hSw; (try dsimp only at hSw); go_simp) <;> (with_reducible rfl))
            (try simp only [Act.put, List.setIfInBounds_toArray, List.set_cons_zero, List.set_cons_succ])
            refine wpAnyH_ready (rs := [53]) (by kernel_rfl) (by simp) ?_
            refine AllReadyH.cons (by (simp only [List.getElem?_toArray, List.getElem?_cons_zero, List.getElem?_cons_succ]) <;> rfl) (fun K hK => ?_) AllReadyH.nil
            go_simp
            (go_at_call 29; (with_reducible refine (NH.out _).mono ?_); rintro e wz ⟨r, rfl, nr, hb⟩; replace bb := bl_trans bb hb; have SM := hide (C3.out r (1 / 2) wz nr); clear nr; clear hb)
            (try go_wp2_with fail)
            refine hK.out _ _ ?_ (fun hHeld => ?_)
            · (try dsimp only)
              with_reducible exact SS.out _ bb
            (try clear hK K)
            (try simp only [Act.put, List.setIfInBounds_toArray, List.set_cons_zero, List.set_cons_succ])
            refine wpAnyH_ready (rs := [55]) (by kernel_rfl) (by simp) ?_
            refine AllReadyH.cons (by (simp only [List.getElem?_toArray, List.getElem?_cons_zero, List.getElem?_cons_succ]) <;> rfl) (fun K hK => ?_) AllReadyH.nil
            go_simp
            (go_at_call 10; (with_reducible refine (SM.out).mono ?_); rintro e wz ⟨rfl, hb⟩; replace bb := bl_trans bb hb; clear hb SM)
            (try go_wp2_with fail)
            refine hK.out _ _ ?_ (fun hHeld => ?_)
            · (try dsimp only)
              with_reducible exact SS.out _ bb
            (try clear hK K)
            (try simp only [Act.put, List.setIfInBounds_toArray, List.set_cons_zero, List.set_cons_succ])
            refine wpAnyH_take (i := 56) (v := ?vv56) (by (simp only [List.getElem?_toArray, List.getElem?_cons_zero, List.getElem?_cons_succ]) <;> rfl) (by kernel_rfl) (by kernel_rfl) (by kernel_rfl) ?hq56 (Or.inl ⟨by rfl, ?hy56⟩) (by assumption) ?_
            case hq56 => exact fun _ _ _ h => h
            case hy56 => ((intro w hSw; (try dsimp only at hSw); go_simp) <;> (with_reducible rfl))
            (try simp only [Act.put, List.setIfInBounds_toArray, List.set_cons_zero, List.set_cons_succ])
            refine wpAnyH_take (i := 57) (v := ?vv57) (by (simp only [List.getElem?_toArray, List.getElem?_cons_zero, List.getElem?_cons_succ]) <;> rfl) (by kernel_rfl) (by kernel_rfl) (by kernel_rfl) ?hq57 (Or.inl ⟨by rfl, ?hy57⟩) (by assumption) ?_
            case hq57 => exact fun _ _ _ h => h
            case hy57 => ((intro w hSw; (try dsimp only at hSw); go_simp) <;> (with_reducible rfl))
            (try simp only [Act.put, List.setIfInBounds_toArray, List.set_cons_zero, List.set_cons_succ])
            refine wpAnyH_take (i := 58) (v := ?vv58) (by (simp only [List.getElem?_toArray, List.getElem?_cons_zero, List.getElem?_cons_succ]) <;> rfl) (by kernel_rfl) (by kernel_rfl) (by kernel_rfl) ?hq58 (Or.inl ⟨by rfl, ?hy58⟩) (by assumption) ?_
            case hq58 => exact fun _ _ _ h => h
            case hy58 => ((intro w hSw; (try dsimp only at hSw); go_simp) <;> (with_reducible rfl))
            (try simp only [Act.put, List.setIfInBounds_toArray, List.set_cons_zero, List.set_cons_succ])
            refine wpAnyH_done (by kernel_rfl) ?_ _
            go_wp2_with fail
            go_ret
            exact ⟨rfl, bw.trans (bb.mono (by rw [← hBd.out]; exact bw.size))⟩
end Nt
end Go.Proofs.YthabfakbdfaciaaGreat
