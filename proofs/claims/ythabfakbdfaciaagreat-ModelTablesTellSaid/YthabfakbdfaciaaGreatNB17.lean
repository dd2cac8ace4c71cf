import Derived.Test.YthabfakbdfaciaaGreatNB16
import Derived.Test.YthabfakbdfaciaaGreatNB9
import Derived.Test.YthabfakbdfaciaaGreatRows
import Derived.WalkKit
import Derived.ProofKit
import Derived.OpenShut
import Derived.Lay
import Derived.Stop.LaidErr
import Derived.Deep.DeepHandedRow
import Derived.Lib.LaidTab
import Derived.Lib.SmallJoins
section
namespace Go.Proofs.YthabfakbdfaciaaGreat
open Go.ChangeShapes Go.RowKit
namespace Nt
set_option maxRecDepth 100000
set_option linter.unusedSimpArgs false
set_option linter.unusedVariables false

theorem fit_div (n d : Int) (hn : n.natAbs < 1000000000) (h0 : d ≠ 0) (hd : d.natAbs < 1000000000) : fitq (Rat.divInt n d) := by
  rw [← qmk_divInt n d h0]
  have h1 : d.natAbs ≠ 0 := by omega
  refine fitL ?_ ?_
  · rw [qn_mk _ _ h1, LB_eq]; exact Nat.lt_of_le_of_lt (Nat.div_le_self _ _) (by omega)
  · rw [qd_mk _ _ h1, LB_eq]; exact Nat.lt_of_le_of_lt (Nat.div_le_self _ _) (by omega)
theorem num_d (n d : Int) (w : World) (hn : n.natAbs < 1000000000) (h0 : d ≠ 0) (hd : d.natAbs < 1000000000) :
    Calls Tryz.prog 29 #[.int .i64 n, .int .i64 d] w fun e w' => ∃ r : Pt, e = .returned (.agg #[.int .i64 1, .bool false, .bool r.s, .slice r.A r.xs.length r.a, .slice r.B r.ys.length r.b, .int .i64 0]) ∧ Nq r (Rat.divInt n d) w' ∧ Below w.heap.size w w' :=
  lnum_e n d _ w (by omega) (by omega) (by omega) (by omega) h0 (qmk_divInt n d h0) (fit_div n d hn h0 hd)
theorem div_inj {n m d : Int} (h0 : d ≠ 0) : Rat.divInt n d = Rat.divInt m d ↔ n = m := by
  rw [Rat.divInt_eq_divInt_iff h0 h0]
  exact ⟨fun h => Int.eq_of_mul_eq_mul_right h0 h, fun h => by rw [h]⟩
theorem applyL_app (l m : List Rr) (av : List Vl) (e : Vl) : applyL (l ++ m) av e = applyL l av (applyL m av e) := by
  induction l with
  | nil => rfl
  | cons r l ih =>
    show (if sameL r.l av = true then r.v else applyL (l ++ m) av e) = if sameL r.l av = true then r.v else applyL l av (applyL m av e)
    rw [ih]
structure Rwk (k : Int) (lr : List Rr) (want : Int) : Prop where
  one : ∀ r ∈ lr, ∃ a : Vl, r.l = [a] ∧ a.so = 1
  ap : ∀ (a e : Vl), a.cn = cq (Rat.divInt k 3) → (applyL lr [a] e).cn = if want < 0 then e.cn else cq (Rat.divInt want 1)
  lo : -1 ≤ want
  hi : want ≤ 99
theorem Rwk.nil (k : Int) : Rwk k [] (-1) := ⟨by simp, fun a e _ => rfl, by decide, by decide⟩
theorem Rwk.push {k want : Int} {lr : List Rr} (h : Rwk k lr want) {n v : Int} (hv : 0 ≤ v ∧ v ≤ 99) {row : Rr} {b : Vl} (hl : row.l = [b]) (hb : b.cn = cq (Rat.divInt n 3)) (hrv : row.v.cn = cq (Rat.divInt v 1)) : Rwk k (lr ++ [row]) (if n = k ∧ want < 0 then v else want) where
  one := fun r hr => by
    rcases List.mem_append.1 hr with hr | hr
    · exact h.one r hr
    · rw [List.mem_singleton] at hr
      subst hr
      exact ⟨b, hl, congrArg (fun x => x.1) hb⟩
  ap := fun a e ha => by
    rw [applyL_app, h.ap a _ ha]
    have h1 : applyL [row] [a] e = if n = k then row.v else e := by
      show (if sameL row.l [a] = true then row.v else e) = _
      rw [hl, one_three hb ha]
      by_cases hnk : n = k
      · rw [if_pos hnk, if_pos (decide_eq_true (by rw [hnk]))]
      · rw [if_neg hnk, if_neg (by rw [decide_eq_false (fun e => hnk ((div_inj (by decide)).1 e))]; decide)]
    rw [h1]
    by_cases hw : want < 0
    · by_cases hnk : n = k
      · have e1 : (if n = k ∧ want < 0 then v else want) = v := if_pos ⟨hnk, hw⟩
        have e2 : ¬ v < 0 := by omega
        rw [e1, if_pos hw, if_pos hnk, if_neg e2]
        exact hrv
      · have e1 : (if n = k ∧ want < 0 then v else want) = want := if_neg (fun hc => hnk hc.1)
        rw [e1, if_pos hw, if_neg hnk, if_pos hw]
    · have e1 : (if n = k ∧ want < 0 then v else want) = want := if_neg (fun hc => hw hc.2)
      rw [e1, if_neg hw, if_neg hw]
  lo := by have := h.lo; split <;> omega
  hi := by have := h.hi; split <;> omega
structure Tl (g : Nat) (w0 : World) (r0 : Pt) (k want : Int) (A : Option Addr) (c : Nat) (i : Nat) (lr : List Rr) (W : World) : Prop where
  bel : Below w0.heap.size w0 W
  gB : w0.heap.size ≤ g
  n0 : Nq r0 (Rat.divInt (-1) 1) W
  bk : Bk g #[.string ⟨#[102]⟩, .slice A i c, .int .i64 1, .bool false, .bool r0.s, .slice r0.A r0.xs.length r0.a, .slice r0.B r0.ys.length r0.b, .int .i64 0] 37 W
  gr : Gr rR (g + 1) W (.slice A i c) lr
  at_ : ∀ r ∈ lr, r.At (g :: (Value.slice A i c).ownBlock.toList) W ∧ r.Few
  len : lr.length = i
  rk : Rwk k lr want
def Pg (g : Nat) (w0 : World) (r0 : Pt) (k want n v : Int) (A : Option Addr) (c : Nat) (i : Nat) (r : Value) (W2 : World) : Prop := ∃ A' c' lr', r = .slice A' (i + 1) c' ∧ W2.frozen? ⟨g, 1, none⟩ = false ∧ W2.cell? ⟨g, 1, none⟩ = some (.slice A i c) ∧ Tl g w0 r0 k (if n = k ∧ want < 0 then v else want) A' c' (i + 1) lr' (W2.setCell ⟨g, 1, none⟩ (.slice A' (i + 1) c'))
section
variable {g : Nat} {w0 : World} {r0 : Pt} {k want : Int} {A : Option Addr} {c : Nat} {i : Nat} {lr : List Rr} {W W1 w5 w6 : World}
theorem Tl.next (h : Tl g w0 r0 k want A c i lr W) (hb : Below W.heap.size W W1) : Tl g w0 r0 k want A c i lr W1 :=
  ⟨bl_trans h.bel hb, h.gB, h.n0.next hb, h.bk.next hb, h.gr.next hb, fun r hr => ⟨(h.at_ r hr).1.next hb, (h.at_ r hr).2⟩, h.len, h.rk⟩
theorem Tl.start (hg : w0.heap.size ≤ W.heap.size) (hb : Below w0.heap.size w0 W) (h0 : Nq r0 (Rat.divInt (-1) 1) W) : Tl W.heap.size w0 r0 k (-1) none 0 0 [] (W.alloc (.cells #[.string ⟨#[102]⟩, .slice none 0 0, .int .i64 1, .bool false, .bool r0.s, .slice r0.A r0.xs.length r0.a, .slice r0.B r0.ys.length r0.b, .int .i64 0] 37)) where
  bel := bl_al hb _
  gB := hg
  n0 := h0.next (bl_al (.refl _ _) _)
  bk := Bk.new _ _ W
  gr := Gr.nil _ _ _
  at_ := by simp
  len := rfl
  rk := Rwk.nil k
theorem Tl.push (h : Tl g w0 r0 k want A c i lr W) (hn : i ≤ 1000) (hb : Below W.heap.size W W1) {gA x : Nat} {rn rv : Pt} {n v : Int} (hv : 0 ≤ v ∧ v ≤ 99) (hA : Bk gA #[.int .i64 1, .bool false, .bool rn.s, .slice rn.A rn.xs.length rn.a, .slice rn.B rn.ys.length rn.b, .int .i64 0] 30 W1) (hgA : W.heap.size ≤ gA) (hX : Bk x #[.slice (some ⟨gA, 0, none⟩) 1 1, .int .i64 1, .bool false, .bool rv.s, .slice rv.A rv.xs.length rv.a, .slice rv.B rv.ys.length rv.b, .int .i64 0] 76 W1) (nn : Nq rn (Rat.divInt n 3) W1) (nv : Nq rv (Rat.divInt v 1) W1) :
    ∃ r w', (∀ t', (Builtin.append_ #[35, 35] t' #[.slice A i c, .slice (some ⟨x, 0, none⟩) 1 1]).run Tryz.prog W1 = .ok r w') ∧ Pg g w0 r0 k want n v A c i r w' := by
  obtain ⟨row, hrow⟩ : ∃ row : Rr, row = ⟨some ⟨gA, 0, none⟩, [nmV rn], 1, nmV rv⟩ := ⟨_, rfl⟩
  have h1 := h.next hb
  have hglt := h.bk.lt
  have hlen := h.len
  subst hlen
  obtain ⟨A', c', W2, r1, r2, r3, r4, _⟩ := h1.gr.push rR_ok row (by omega) (by have := h1.bk.lt; omega) (x := x) (show Bk x (rR.enc row).toArray rR.e W1 by rw [hrow]; exact hX)
  have hown := h.gr.base
  have hown1 := h1.gr.base
  have hg2 : g ∉ (Value.slice A lr.length c).ownBlock.toList := fun hm => by have := (hown g (by simpa using hm)).1; omega
  have hg3 : ∀ b, (Value.slice A' (lr.length + 1) c').ownBlock = some b → b ∉ [g] := fun b e hm => by
    simp at hm
    subst hm
    rcases r4 _ e with e' | e'
    · have := (hown _ e').1; omega
    · have := h1.bk.lt; omega
  have L := h1.gr.lk r3
  have bk2 := h1.bk.off r3 hg2
  have O2 : Off [g] W2 (W2.setCell ⟨g, 1, none⟩ (.slice A' (lr.length + 1) c')) := (Off.refl _ _).setCell _ _ (.inl (by simp))
  have L2 : Lks W2 (W2.setCell ⟨g, 1, none⟩ (.slice A' (lr.length + 1) c')) := Lks.of_bk bk2 (by intro v hv; simp at hv; rcases hv with rfl | rfl | rfl | rfl | rfl | rfl | rfl | rfl <;> rfl) O2
  have hsz := r3.size
  have hZ : ∀ b ∈ g :: (Value.slice A' (lr.length + 1) c').ownBlock.toList, b ∈ g :: (Value.slice A lr.length c).ownBlock.toList ∨ W1.heap.size ≤ b := by
    intro b hm
    rcases List.mem_cons.1 hm with rfl | hm
    · exact .inl (by simp)
    · rcases r4 b (by simpa using hm) with e | e
      · exact .inl (List.mem_cons_of_mem _ (by simpa using e))
      · exact .inr (Nat.le_of_eq e.symm)
  have move : ∀ r : Rr, r.At (g :: (Value.slice A lr.length c).ownBlock.toList) W1 → r.At (g :: (Value.slice A' (lr.length + 1) c').ownBlock.toList) (W2.setCell ⟨g, 1, none⟩ (.slice A' (lr.length + 1) c')) := fun r hr =>
    (hr.off r3 L (fun b hm => .inl (List.mem_cons_of_mem _ hm)) hZ).off O2 L2 (fun b hm => .inl (by simp at hm; simp [hm])) (fun b hm => .inl hm)
  have hgA2 : gA ∉ g :: (Value.slice A lr.length c).ownBlock.toList := fun hm => by
    rcases List.mem_cons.1 hm with e | hm
    · omega
    · have := (hown gA (by simpa using hm)).2; omega
  have rowAt : row.At (g :: (Value.slice A lr.length c).ownBlock.toList) W1 := by
    rw [hrow]
    exact ⟨vs_one (v := nmV rn) hA nn.at_ hgA2, nv.at_⟩
  have rowFew : row.Few := by
    rw [hrow]
    exact ⟨fun u hu => by rw [List.mem_singleton] at hu; subst hu; exact nn.few, nv.few, by simp⟩
  have bel2 : Below w0.heap.size w0 W2 := h1.bel.trans (r3.below h1.bel.size (fun b hm => by have := (hown b (by simpa using hm)).1; have := h.gB; omega))
  refine ⟨_, W2, r1, A', c', lr ++ [row], rfl, bk2.free 1, bk2.cell rfl, ⟨bel2.trans (O2.below bel2.size (fun b hm => by simp at hm; subst hm; exact h.gB)), h.gB, ⟨h1.n0.q, h1.n0.ok, ⟨L2 _ _ (L _ _ h1.n0.at_.1), L2 _ _ (L _ _ h1.n0.at_.2)⟩⟩, bk2.set _ rfl, r2.off O2 hg3, fun r hr => ?_, by simp, h.rk.push hv (row := row) (b := nmV rn) (by rw [hrow]) nn.cn (by rw [hrow]; exact nv.cn)⟩⟩
  rcases List.mem_append.1 hr with hr | hr
  · exact ⟨move r (h1.at_ r hr).1, (h1.at_ r hr).2⟩
  · rw [List.mem_singleton] at hr
    subst hr
    exact ⟨move _ rowAt, rowFew⟩
theorem Tl.push1 (h : Tl g w0 r0 k want A c i lr W) (hn : i ≤ 1000) {rn rv : Pt} {n v : Int} (hv : 0 ≤ v ∧ v ≤ 99) (b5 : Below W.heap.size W w5) (nn : Nq rn (Rat.divInt n 3) w5) (b6 : Below (w5.alloc (.cells #[.int .i64 1, .bool false, .bool rn.s, .slice rn.A rn.xs.length rn.a, .slice rn.B rn.ys.length rn.b, .int .i64 0] 30)).heap.size (w5.alloc (.cells #[.int .i64 1, .bool false, .bool rn.s, .slice rn.A rn.xs.length rn.a, .slice rn.B rn.ys.length rn.b, .int .i64 0] 30)) w6) (nv : Nq rv (Rat.divInt v 1) w6) :
    ∃ r w', (∀ t', (Builtin.append_ #[35, 35] t' #[.slice A i c, .slice (some ⟨w6.heap.size, 0, none⟩) 1 1]).run Tryz.prog (w6.alloc (.cells #[.slice (some ⟨w5.heap.size, 0, none⟩) 1 1, .int .i64 1, .bool false, .bool rv.s, .slice rv.A rv.xs.length rv.a, .slice rv.B rv.ys.length rv.b, .int .i64 0] 76)) = .ok r w') ∧ Pg g w0 r0 k want n v A c i r w' := by
  have g6 : Below w5.heap.size w5 w6 := bl_trans (bl_al (.refl _ _) _) b6
  have g7 : Below w6.heap.size w6 (w6.alloc (.cells #[.slice (some ⟨w5.heap.size, 0, none⟩) 1 1, .int .i64 1, .bool false, .bool rv.s, .slice rv.A rv.xs.length rv.a, .slice rv.B rv.ys.length rv.b, .int .i64 0] 76)) := bl_al (.refl _ _) _
  exact h.push hn (bl_trans b5 (bl_trans g6 g7)) hv (((Bk.new _ _ w5).next b6).next g7) b5.size (Bk.new _ _ w6) ((nn.next g6).next g7) (nv.next g7)
theorem Tl.push2 (h : Tl g w0 r0 k want A c i lr W) (hn : i ≤ 1000) {rn rv : Pt} {n v : Int} (hv : 0 ≤ v ∧ v ≤ 99) (b5 : Below W.heap.size W w5) (nn : Nq rn (Rat.divInt n 3) w5) (b6 : Below w5.heap.size w5 w6) (nv : Nq rv (Rat.divInt v 1) w6) :
    ∃ r w', (∀ t', (Builtin.append_ #[35, 35] t' #[.slice A i c, .slice (some ⟨w6.heap.size + 1, 0, none⟩) 1 1]).run Tryz.prog ((w6.alloc (.cells #[.int .i64 1, .bool false, .bool rn.s, .slice rn.A rn.xs.length rn.a, .slice rn.B rn.ys.length rn.b, .int .i64 0] 30)).alloc (.cells #[.slice (some ⟨w6.heap.size, 0, none⟩) 1 1, .int .i64 1, .bool false, .bool rv.s, .slice rv.A rv.xs.length rv.a, .slice rv.B rv.ys.length rv.b, .int .i64 0] 76)) = .ok r w') ∧ Pg g w0 r0 k want n v A c i r w' := by
  have g7 : Below w6.heap.size w6 ((w6.alloc (.cells #[.int .i64 1, .bool false, .bool rn.s, .slice rn.A rn.xs.length rn.a, .slice rn.B rn.ys.length rn.b, .int .i64 0] 30)).alloc (.cells #[.slice (some ⟨w6.heap.size, 0, none⟩) 1 1, .int .i64 1, .bool false, .bool rv.s, .slice rv.A rv.xs.length rv.a, .slice rv.B rv.ys.length rv.b, .int .i64 0] 76)) := bl_al (bl_al (.refl _ _) _) _
  exact h.push hn (bl_trans b5 (bl_trans b6 g7)) hv ((Bk.new _ _ w6).al _) (Nat.le_trans b5.size b6.size) (Bk.new1 _ _ w6 _) ((nn.next b6).next g7) (nv.next g7)
-- what is applied
theorem Tl.fewT (h : Tl g w0 r0 k want A c i lr W) (hn : i ≤ 1000) : (⟨⟨#[102]⟩, A, lr, c, nmV r0⟩ : Tr).Few := ⟨fun r hr => (h.at_ r hr).2, h.n0.few, (show lr.length ≤ 100000 from by have := h.len; omega)⟩
theorem Tl.atT (h : Tl g w0 r0 k want A c i lr W) : (⟨⟨#[102]⟩, A, lr, c, nmV r0⟩ : Tr).At [] W := by
  obtain ⟨A', c', e, hr, _⟩ := h.gr.rl rR_ok (Z := []) (by simp)
  injection e with e1 e2 e3
  subst e1
  exact ⟨⟨hr, fun r hr => (h.at_ r hr).1.off (Off.refl [] _) (Lks.refl _) (by simp) (by simp)⟩, h.n0.at_⟩
theorem Tl.apG (h : Tl g w0 r0 k want A c i lr W) (hn : i ≤ 1000) (hb : Below W.heap.size W W1) {C : Option Addr} {kc : Nat} {av : List Vl} {Z : List Nat} (hC : Vs Z W1 C av) (fa : ∀ a ∈ av, a.Few) (na : av.length ≤ 1000) (x : CV) (hx : (applyL lr av (nmV r0)).cn = x) :
    Calls Tryz.prog 15 #[.agg #[.string ⟨#[102]⟩, .slice A i c, .int .i64 1, .bool false, .bool r0.s, .slice r0.A r0.xs.length r0.a, .slice r0.B r0.ys.length r0.b, .int .i64 0], .slice C av.length kc] W1 fun e w' => ∃ v : Vl, e = .returned (.agg #[.int .i64 v.so, .bool v.bo, .bool v.p.s, .slice v.p.A v.p.xs.length v.p.a, .slice v.p.B v.p.ys.length v.p.b, .int .i64 v.el]) ∧ Vx v x w' ∧ Below W1.heap.size W1 w' := by
  have hl := h.len
  have hf := h.fewT hn
  have ha := (h.next hb).atT
  subst hl
  refine (apply_v ⟨⟨#[102]⟩, A, lr, c, nmV r0⟩ C kc av W1 ha hf hC fa (by omega)).mono fun e w' ⟨v, e1, e2, e3, e4, e5⟩ => ⟨v, e1, ⟨e2.trans hx, e3, e4⟩, e5⟩
theorem noneSame {lr : List Rr} {av : List Vl} {e : Vl} (h : ∀ r ∈ lr, sameL r.l av = false) : applyL lr av e = e := by
  induction lr with
  | nil => rfl
  | cons r l ih =>
    show (if sameL r.l av = true then r.v else applyL l av e) = e
    rw [h r (by simp), if_neg (by decide)]
    exact ih (fun r hr => h r (by simp [hr]))
theorem Tl.ap1 (h : Tl g w0 r0 k want A c i lr W) (hn : i ≤ 1000) {r : Pt} (hb : Below W.heap.size W W1) (nr : Nq r (Rat.divInt k 3) W1) : Calls Tryz.prog 15 #[.agg #[.string ⟨#[102]⟩, .slice A i c, .int .i64 1, .bool false, .bool r0.s, .slice r0.A r0.xs.length r0.a, .slice r0.B r0.ys.length r0.b, .int .i64 0], .slice (some ⟨W1.heap.size, 0, none⟩) 1 1] (W1.alloc (.cells #[.int .i64 1, .bool false, .bool r.s, .slice r.A r.xs.length r.a, .slice r.B r.ys.length r.b, .int .i64 0] 30)) fun e w' => ∃ v : Vl, e = .returned (.agg #[.int .i64 v.so, .bool v.bo, .bool v.p.s, .slice v.p.A v.p.xs.length v.p.a, .slice v.p.B v.p.ys.length v.p.b, .int .i64 v.el]) ∧ Vx v (cq (Rat.divInt want 1)) w' ∧ Below (W1.alloc (.cells #[.int .i64 1, .bool false, .bool r.s, .slice r.A r.xs.length r.a, .slice r.B r.ys.length r.b, .int .i64 0] 30)).heap.size (W1.alloc (.cells #[.int .i64 1, .bool false, .bool r.s, .slice r.A r.xs.length r.a, .slice r.B r.ys.length r.b, .int .i64 0] 30)) w' := by
  have g1 : Below W1.heap.size W1 (W1.alloc (.cells #[.int .i64 1, .bool false, .bool r.s, .slice r.A r.xs.length r.a, .slice r.B r.ys.length r.b, .int .i64 0] 30)) := bl_al (.refl _ _) _
  refine h.apG hn (bl_trans hb g1) (C := some ⟨W1.heap.size, 0, none⟩) (av := [nmV r]) (Z := []) (vs_one (v := nmV r) (Bk.new _ _ W1) (nr.next g1).at_ (by simp)) (by intro v hv; rw [List.mem_singleton] at hv; subst hv; exact nr.few) (by simp) _ ?_
  rw [h.rk.ap _ _ nr.cn]
  split
  · rename_i hw
    have : want = -1 := by have := h.rk.lo; omega
    rw [this]
    exact h.n0.cn
  · rfl
theorem Tl.ap0 (h : Tl g w0 r0 k want A c i lr W) (hn : i ≤ 1000) (hb : Below W.heap.size W W1) : Calls Tryz.prog 15 #[.agg #[.string ⟨#[102]⟩, .slice A i c, .int .i64 1, .bool false, .bool r0.s, .slice r0.A r0.xs.length r0.a, .slice r0.B r0.ys.length r0.b, .int .i64 0], .slice none 0 0] W1 fun e w' => ∃ v : Vl, e = .returned (.agg #[.int .i64 v.so, .bool v.bo, .bool v.p.s, .slice v.p.A v.p.xs.length v.p.a, .slice v.p.B v.p.ys.length v.p.b, .int .i64 v.el]) ∧ Vx v (cq (Rat.divInt (-1) 1)) w' ∧ Below W1.heap.size W1 w' := by
  refine h.apG hn hb (C := none) (av := []) (Z := []) ⟨.inl rfl, by simp⟩ (by simp) (by simp) _ ?_
  rw [noneSame (fun r hr => by obtain ⟨a, ha, _⟩ := h.rk.one r hr; rw [ha]; rfl)]
  exact h.n0.cn
theorem Tl.ap2 (h : Tl g w0 r0 k want A c i lr W) (hn : i ≤ 1000) (x : Int) (hb : Below W.heap.size W W1) : Calls Tryz.prog 15 #[.agg #[.string ⟨#[102]⟩, .slice A i c, .int .i64 1, .bool false, .bool r0.s, .slice r0.A r0.xs.length r0.a, .slice r0.B r0.ys.length r0.b, .int .i64 0], .slice (some ⟨W1.heap.size, 0, none⟩) 1 1] (W1.alloc (.cells #[.int .i64 2, .bool false, .bool false, .slice none 0 0, .slice none 0 0, .int .i64 x] 30)) fun e w' => ∃ v : Vl, e = .returned (.agg #[.int .i64 v.so, .bool v.bo, .bool v.p.s, .slice v.p.A v.p.xs.length v.p.a, .slice v.p.B v.p.ys.length v.p.b, .int .i64 v.el]) ∧ Vx v (cq (Rat.divInt (-1) 1)) w' ∧ Below (W1.alloc (.cells #[.int .i64 2, .bool false, .bool false, .slice none 0 0, .slice none 0 0, .int .i64 x] 30)).heap.size (W1.alloc (.cells #[.int .i64 2, .bool false, .bool false, .slice none 0 0, .slice none 0 0, .int .i64 x] 30)) w' := by
  have g1 : Below W1.heap.size W1 (W1.alloc (.cells #[.int .i64 2, .bool false, .bool false, .slice none 0 0, .slice none 0 0, .int .i64 x] 30)) := bl_al (.refl _ _) _
  refine h.apG hn (bl_trans hb g1) (C := some ⟨W1.heap.size, 0, none⟩) (av := [⟨2, false, ⟨false, none, 0, [], none, 0, [], 0⟩, x⟩]) (Z := []) (vs_one (v := ⟨2, false, ⟨false, none, 0, [], none, 0, [], 0⟩, x⟩) (Bk.new _ _ W1) ⟨.inl rfl, .inl rfl⟩ (by simp)) (by intro v hv; rw [List.mem_singleton] at hv; subst hv; exact ⟨⟨by simp [Limbs], by simp [Limbs], by simp, by simp⟩, by simp, by simp⟩) (by simp) _ ?_
  rw [noneSame (fun r hr => by
    obtain ⟨a, ha, hs⟩ := h.rk.one r hr
    rw [ha]
    unfold sameL vsame
    rw [hs]
    simp)]
  exact h.n0.cn
end

set_option maxHeartbeats 16000000 in
theorem tells_law (A0 : Option Addr) (xs0 : List Int) (c0 : Nat) (A1 : Option Addr) (xs1 : List Int) (c1 : Nat) (asked : Int) (w : World) (s0 : Ir [] w A0 xs0) (m0 : xs0.length ≤ maxLen) (s1 : Ir [] w A1 xs1) (m1 : xs1.length ≤ maxLen) :
    Calls Tryz.prog 5 #[.slice A0 xs0.length c0, .slice A1 xs1.length c1, .int .i64 asked] w fun e w' => e = .returned (.bool true) ∧ Below w.heap.size w w' := by
  have haw := fun W (hb : Below w.heap.size w W) => (awake10_any W).mono fun e w' (h : e = .returned (.bool true) ∧ Below W.heap.size W w') => (show e = .returned (.bool true) ∧ Below w.heap.size w w' from ⟨h.1, bl_trans hb h.2⟩)
  have hrd0 : ∀ W, Below w.heap.size w W → ∀ i, i < xs0.length → ∃ b o, A0 = some ⟨b, o, none⟩ ∧ W.cell? ⟨b, o + i, none⟩ = some (.int .i64 (xs0.getD i 0)) := by
    intro W hb i hi
    rcases s0.off (T' := []) (Off.of_below hb []) (by simp) (by simp) with he | ⟨b, o, e, _, _, hc⟩
    · rw [he] at hi; simp at hi
    · exact ⟨b, o, e, hc i hi⟩
  have hrd1 : ∀ W, Below w.heap.size w W → ∀ i, i < xs1.length → ∃ b o, A1 = some ⟨b, o, none⟩ ∧ W.cell? ⟨b, o + i, none⟩ = some (.int .i64 (xs1.getD i 0)) := by
    intro W hb i hi
    rcases s1.off (T' := []) (Off.of_below hb []) (by simp) (by simp) with he | ⟨b, o, e, _, _, hc⟩
    · rw [he] at hi; simp at hi
    · exact ⟨b, o, e, hc i hi⟩
  generalize xs0.length = m at *
  generalize xs1.length = p at *
  clear s0 s1
  replace haw := hide haw; replace hrd0 := hide hrd0; replace hrd1 := hide hrd1
  by_cases hg : m > 12 ∨ p < m ∨ p > 20
  · clear hrd0 hrd1
    have h1 : decide ((12 : Int) < (m : Int)) = decide (12 < m) := decide_eq_decide.2 (by omega)
    rcases Decidable.em (12 < m) with k1 | k1
    · have g1 : decide (12 < m) = true := decide_eq_true k1
      go_enter Tryz.func5, Tryz.ntmps5
      go_wp2_with (go_at_call 9; (with_reducible refine (haw.out _ (Below.refl _ _)).mono ?_); rintro e w1 ⟨rfl, hb⟩; replace hb := hide hb)
      go_ret
      exact ⟨rfl, hb.out⟩
    · have g1 : decide (12 < m) = false := decide_eq_false k1
      rcases Decidable.em (p < m) with k2 | k2
      · have g2 : decide (p < m) = true := decide_eq_true k2
        go_enter Tryz.func5, Tryz.ntmps5
        go_wp2_with (go_at_call 9; (with_reducible refine (haw.out _ (Below.refl _ _)).mono ?_); rintro e w1 ⟨rfl, hb⟩; replace hb := hide hb)
        go_ret
        exact ⟨rfl, hb.out⟩
      · have g2 : decide (p < m) = false := decide_eq_false k2
        have g3 : decide (20 < p) = true := decide_eq_true (by omega)
        go_enter Tryz.func5, Tryz.ntmps5
        go_wp2_with (go_at_call 9; (with_reducible refine (haw.out _ (Below.refl _ _)).mono ?_); rintro e w1 ⟨rfl, hb⟩; replace hb := hide hb)
        go_ret
        exact ⟨rfl, hb.out⟩
  · have n1 : m ≤ 12 := by omega
    have n2 : m ≤ p := by omega
    have n3 : p ≤ 20 := by omega
    clear hg
    obtain ⟨k, hk⟩ : ∃ k, k = asked % ((6 : Nat) : Int) := ⟨_, rfl⟩
    have k0 : 0 ≤ k := by omega
    have k6 : k < 6 := by omega
    have RK : Hid (∀ W, Calls Tryz.prog 31 #[.int .i64 asked, .int .i64 6] W fun e w' => e = .returned (.int .i64 k) ∧ W = w') := hide fun W => by
      have := round_any asked 6 (by decide) (by decide) W
      rw [← hk] at this
      exact this
    clear hk
    have N0 := hide (fun W => num_d (-1) 1 W (by decide) (by decide) (by decide))
    have NK := hide (fun W => num_d k 3 W (by omega) (by decide) (by decide))
    go_enter Tryz.func5, Tryz.ntmps5
    go_wp2_with (first
      | (go_at_call 29; (with_reducible refine (N0.out _).mono ?_); rintro e w1 ⟨r0, rfl, n0, b1⟩; replace n0 := hide n0; replace b1 := hide b1)
      | (go_at_call 31; (with_reducible refine (RK.out _).mono ?_); rintro e w2 ⟨rfl, rfl⟩))
    have T0 := hide (Tl.start (k := k) b1.out.size b1.out n0.out)
    generalize w1.heap.size = g at *
    go_loopw [8, 10] (fun wv ii wr => ∃ (i : Nat) (want : Int) (A : Option Addr) (c : Nat) (lr : List Rr), i ≤ m ∧ ii = .int .i64 (i : Int) ∧ wv = .int .i64 want ∧ Tl g w r0 k want A c i lr wr) (fun _ ii _ => m - (intOf ii).toNat)
    case atStart => exact ⟨0, -1, none, 0, [], Nat.zero_le _, rfl, rfl, T0.out⟩
    case round =>
      obtain ⟨i, want, A, c, lr, hi, rfl, rfl, T⟩ := hrel
      have wlo := T.rk.lo
      have whi := T.rk.hi
      by_cases hlt : i < m
      · obtain ⟨b0, o0, rfl, y0⟩ := hrd0.out wr T.bel i hlt
        obtain ⟨b1', o1, rfl, y1⟩ := hrd1.out wr T.bel i (by omega)
        obtain ⟨n, hn⟩ : ∃ n, n = xs0.getD i 0 % ((6 : Nat) : Int) := ⟨_, rfl⟩
        obtain ⟨v, hv⟩ : ∃ v, v = xs1.getD i 0 % ((100 : Nat) : Int) := ⟨_, rfl⟩
        have RN : Hid (∀ W, Calls Tryz.prog 31 #[.int .i64 (xs0.getD i 0), .int .i64 6] W fun e w' => e = .returned (.int .i64 n) ∧ w' = W) := hide fun W => by
          have := round_any (xs0.getD i 0) 6 (by decide) (by decide) W
          rw [← hn] at this
          exact this.mono fun e w' ⟨h1, h2⟩ => ⟨h1, h2.symm⟩
        have RV : Hid (∀ W, Calls Tryz.prog 31 #[.int .i64 (xs1.getD i 0), .int .i64 100] W fun e w' => e = .returned (.int .i64 v) ∧ w' = W) := hide fun W => by
          have := round_any (xs1.getD i 0) 100 (by decide) (by decide) W
          rw [← hv] at this
          exact this.mono fun e w' ⟨h1, h2⟩ => ⟨h1, h2.symm⟩
        have hn0 : 0 ≤ n ∧ n < 6 := by omega
        have hv0 : 0 ≤ v ∧ v ≤ 99 := by omega
        have CN := hide (fun W => num_d n 3 W (by omega) (by decide) (by decide))
        have CV := hide (fun W => num_d v 1 W (by omega) (by decide) (by decide))
        clear hn hv
        generalize xs0.getD i 0 = f0 at *
        generalize xs1.getD i 0 = f1 at *
        replace T := hide T
        replace hn0 := hide hn0
        replace hv0 := hide hv0
        have hip : i < p := by omega
        have hi1000 : i ≤ 1000 := by omega
        go_wp2
        go_big_quiet ((go_at_call 31; first | ((with_reducible show Calls _ _ #[_, .int .i64 6] _ _); exact Calls.quiet_of_same (RN.out _)) | ((with_reducible show Calls _ _ #[_, .int .i64 100] _ _); exact Calls.quiet_of_same (RV.out _))))
        have T1 := hide (T.out.next (bel_dn wr nq))
        generalize wr.drewN nq = wq at *
        clear T y0 y1 RN RV
        go_wp2
        have T2 := hide (T1.out.next (bel_dr wq))
        have y0 := T2.out.bk.cell (j := 1) rfl
        refine wp_region_T (fun W => W.cell? ⟨g, 1, none⟩ = some (.slice A i c)) 11 (by kernel_rfl) (y0) (fun hHeld => ?_)
        refine wpAnyT_take 12 (i := 0) (v := ?vvt1) (by (simp only [List.getElem?_toArray, List.getElem?_cons_zero, List.getElem?_cons_succ]) <;> rfl) (by kernel_rfl) (by kernel_rfl) (by kernel_rfl) (by kernel_rfl) (by kernel_rfl) (by rfl) ?hqt1 (Or.inl ⟨by rfl, ?hyt1⟩) (by assumption) ?_
        case hqt1 => exact fun _ _ _ h => h
        case hyt1 => ((intro w hSw; (try dsimp only at hSw); go_simp) <;> (with_reducible rfl))
        (try simp only [Act.put, List.setIfInBounds_toArray, List.set_cons_zero, List.set_cons_succ])
        refine wpAnyT_take 12 (i := 1) (v := ?vvt2) (by (simp only [List.getElem?_toArray, List.getElem?_cons_zero, List.getElem?_cons_succ]) <;> rfl) (by kernel_rfl) (by kernel_rfl) (by kernel_rfl) (by kernel_rfl) (by kernel_rfl) (by rfl) ?hqt2 (Or.inl ⟨by rfl, ?hyt2⟩) (by assumption) ?_
        case hqt2 => exact fun _ _ _ h => h
        case hyt2 => ((intro w hSw; (try dsimp only at hSw); go_simp) <;> (with_reducible rfl))
        (try simp only [Act.put, List.setIfInBounds_toArray, List.set_cons_zero, List.set_cons_succ])
        refine wpAnyT_take 12 (i := 2) (v := ?vvt3) (by (simp only [List.getElem?_toArray, List.getElem?_cons_zero, List.getElem?_cons_succ]) <;> rfl) (by kernel_rfl) (by kernel_rfl) (by kernel_rfl) (by kernel_rfl) (by kernel_rfl) (by rfl) ?hqt3 (Or.inl ⟨by rfl, ?hyt3⟩) (by assumption) ?_
        case hqt3 => exact fun _ _ _ h => h
        case hyt3 => ((intro w hSw; (try dsimp only at hSw); go_simp) <;> (with_reducible rfl))
        (try simp only [Act.put, List.setIfInBounds_toArray, List.set_cons_zero, List.set_cons_succ])
        refine wpAnyT_take 12 (i := 5) (v := ?vvt4) (by (simp only [List.getElem?_toArray, List.getElem?_cons_zero, List.getElem?_cons_succ]) <;> rfl) (by kernel_rfl) (by kernel_rfl) (by kernel_rfl) (by kernel_rfl) (by kernel_rfl) (by rfl) ?hqt4 (Or.inl ⟨by rfl, ?hyt4⟩) (by assumption) ?_
        case hqt4 => exact fun _ _ _ h => h
        case hyt4 => ((intro w hSw; (try dsimp only at hSw); go_simp) <;> (with_reducible rfl))
        (try simp only [Act.put, List.setIfInBounds_toArray, List.set_cons_zero, List.set_cons_succ])
        refine wpAnyT_ready (rs := [3]) (by kernel_rfl) (by simp) ?_
        refine (AllReadyT.cons (by (simp only [List.getElem?_toArray, List.getElem?_cons_zero, List.getElem?_cons_succ]) <;> rfl) (fun K hK => ?_) AllReadyT.nil)
        go_simp
        go_at_call 29; (with_reducible refine (CN.out _).mono ?_); rintro e w5 ⟨rn, rfl, nn, b5⟩
        have y := cell_next b5 y0
        replace b5 := hide b5; replace nn := hide nn
        (try go_wp2_with fail)
        refine hK.out _ _ (by first | exact y | exact cell_al y _ | exact cell_al (cell_al y _) _) (fun hHeld => ?_)
        (try clear hK K)
        (try simp only [Act.put, List.setIfInBounds_toArray, List.set_cons_zero, List.set_cons_succ])
        refine wpAnyT_ready (rs := [4, 6]) (by kernel_rfl) (by simp) ?_
        refine (AllReadyT.cons (by (simp only [List.getElem?_toArray, List.getElem?_cons_zero, List.getElem?_cons_succ]) <;> rfl) (fun K hK => ?_) (AllReadyT.cons (by (simp only [List.getElem?_toArray, List.getElem?_cons_zero, List.getElem?_cons_succ]) <;> rfl) (fun K hK => ?_) AllReadyT.nil))
        · go_simp
          refine hK.out _ _ (by first | exact y | exact cell_al y _ | exact cell_al (cell_al y _) _) (fun hHeld => ?_)
          (try clear hK K)
          (try simp only [Act.put, List.setIfInBounds_toArray, List.set_cons_zero, List.set_cons_succ])
          refine wpAnyT_ready (rs := [6]) (by kernel_rfl) (by simp) ?_
          refine (AllReadyT.cons (by (simp only [List.getElem?_toArray, List.getElem?_cons_zero, List.getElem?_cons_succ]) <;> rfl) (fun K hK => ?_) AllReadyT.nil)
          go_simp
          go_at_call 29; (with_reducible refine (CV.out _).mono ?_); rintro e w6 ⟨rv, rfl, nv, b6⟩
          first | (have P := hide (T2.out.push1 hi1000 hv0.out b5.out nn.out b6 nv); replace y := cell_next (bl_trans (bl_al (.refl _ _) _) b6) y) | (have P := hide (T2.out.push2 hi1000 hv0.out b5.out nn.out b6 nv); replace y := cell_next b6 y)
          clear b6 nv
          (try go_wp2_with fail)
          refine hK.out _ _ (by first | exact y | exact cell_al y _ | exact cell_al (cell_al y _) _) (fun hHeld => ?_)
          (try clear hK K)
          (try simp only [Act.put, List.setIfInBounds_toArray, List.set_cons_zero, List.set_cons_succ])
          refine wpAnyT_take 12 (i := 7) (v := ?vvt5) (by (simp only [List.getElem?_toArray, List.getElem?_cons_zero, List.getElem?_cons_succ]) <;> rfl) (by kernel_rfl) (by kernel_rfl) (by kernel_rfl) (by kernel_rfl) (by kernel_rfl) (by rfl) ?hqt5 (Or.inl ⟨by rfl, ?hyt5⟩) (by assumption) ?_
          case hqt5 => exact fun _ _ _ h => h
          case hyt5 => ((intro w hSw; (try dsimp only at hSw); go_simp) <;> (with_reducible rfl))
          (try simp only [Act.put, List.setIfInBounds_toArray, List.set_cons_zero, List.set_cons_succ])
          refine wpAnyT_ready (rs := [8]) (by kernel_rfl) (by simp) ?_
          refine (AllReadyT.cons (by (simp only [List.getElem?_toArray, List.getElem?_cons_zero, List.getElem?_cons_succ]) <;> rfl) (fun K hK => ?_) AllReadyT.nil)
          go_simp
          refine hK.out _ _ (by first | exact y | exact cell_al y _ | exact cell_al (cell_al y _) _) (fun hHeld => ?_)
          (try clear hK K)
          (try simp only [Act.put, List.setIfInBounds_toArray, List.set_cons_zero, List.set_cons_succ])
          refine wpAnyT_ready (rs := [9]) (by kernel_rfl) (by simp) ?_
          refine (AllReadyT.cons (by (simp only [List.getElem?_toArray, List.getElem?_cons_zero, List.getElem?_cons_succ]) <;> rfl) (fun K hK => ?_) AllReadyT.nil)
          rw [if_pos (by rfl)]
          refine wp_append_ex (.tmp 50) (.tmp 57) 35 rfl (.slice A i c) (.slice (some ⟨_, 0, none⟩) 1 1) rfl rfl _ P.out ?_
          rintro r W2 ⟨A', c', lr', rfl, q2, y, q4⟩
          replace q4 := hide q4
          clear P
          refine hK.out _ _ (by first | exact y | exact cell_al y _ | exact cell_al (cell_al y _) _) (fun hHeld => ?_)
          (try clear hK K)
          (try simp only [Act.put, List.setIfInBounds_toArray, List.set_cons_zero, List.set_cons_succ])
          refine wpAnyT_take 12 (i := 10) (v := ?vvt6) (by (simp only [List.getElem?_toArray, List.getElem?_cons_zero, List.getElem?_cons_succ]) <;> rfl) (by kernel_rfl) (by kernel_rfl) (by kernel_rfl) (by kernel_rfl) (by kernel_rfl) (by rfl) ?hqt6 (Or.inl ⟨by rfl, ?hyt6⟩) (by assumption) ?_
          case hqt6 => exact fun _ _ _ h => h
          case hyt6 => ((intro w hSw; (try dsimp only at hSw); go_simp) <;> (with_reducible rfl))
          (try simp only [Act.put, List.setIfInBounds_toArray, List.set_cons_zero, List.set_cons_succ])
          refine wpAnyT_ready (rs := [11]) (by kernel_rfl) (by simp) ?_
          refine (AllReadyT.last (by (simp only [List.getElem?_toArray, List.getElem?_cons_zero, List.getElem?_cons_succ]) <;> rfl) (by kernel_rfl) (fun K hK => ?_) AllReadyT.nil)
          go_simp
          refine hK.out _ _ ?_
          (try clear hK K)
          (try simp only [Act.put, List.setIfInBounds_toArray, List.set_cons_zero, List.set_cons_succ])
          refine wpAnyT_done (by kernel_rfl) ?_ _
          (try clear hHeld)
          generalize W2.setCell ⟨g, 1, none⟩ (.slice A' (i + 1) c') = W3 at *
          by_cases hnk : n = k
          · have g1 : (n == k) = true := beq_iff_eq.2 hnk
            by_cases hw : want < 0
            · have g2 : decide (want < 0) = true := decide_eq_true hw
              go_wp2
              go_roundw
              case rel => exact ⟨i + 1, v, A', c', lr', hlt, by go_num, rfl, by have := q4.out; rw [if_pos ⟨hnk, hw⟩] at this; exact this⟩
              case measure => simp only [intOf]; omega
            · have g2 : decide (want < 0) = false := decide_eq_false hw
              go_wp2
              go_roundw
              case rel => exact ⟨i + 1, want, A', c', lr', hlt, by go_num, rfl, by have := q4.out; rw [if_neg (fun h => hw h.2)] at this; exact this⟩
              case measure => simp only [intOf]; omega
          · have g1 : (n == k) = false := beq_eq_false_iff_ne.2 hnk
            go_wp2
            go_roundw
            case rel => exact ⟨i + 1, want, A', c', lr', hlt, by go_num, rfl, by have := q4.out; rw [if_neg (fun h => hnk h.1)] at this; exact this⟩
            case measure => simp only [intOf]; omega
        · go_simp
          go_at_call 29; (with_reducible refine (CV.out _).mono ?_); rintro e w6 ⟨rv, rfl, nv, b6⟩
          first | (have P := hide (T2.out.push1 hi1000 hv0.out b5.out nn.out b6 nv); replace y := cell_next (bl_trans (bl_al (.refl _ _) _) b6) y) | (have P := hide (T2.out.push2 hi1000 hv0.out b5.out nn.out b6 nv); replace y := cell_next b6 y)
          clear b6 nv
          (try go_wp2_with fail)
          refine hK.out _ _ (by first | exact y | exact cell_al y _ | exact cell_al (cell_al y _) _) (fun hHeld => ?_)
          (try clear hK K)
          (try simp only [Act.put, List.setIfInBounds_toArray, List.set_cons_zero, List.set_cons_succ])
          refine wpAnyT_ready (rs := [4]) (by kernel_rfl) (by simp) ?_
          refine (AllReadyT.cons (by (simp only [List.getElem?_toArray, List.getElem?_cons_zero, List.getElem?_cons_succ]) <;> rfl) (fun K hK => ?_) AllReadyT.nil)
          go_simp
          refine hK.out _ _ (by first | exact y | exact cell_al y _ | exact cell_al (cell_al y _) _) (fun hHeld => ?_)
          (try clear hK K)
          (try simp only [Act.put, List.setIfInBounds_toArray, List.set_cons_zero, List.set_cons_succ])
          refine wpAnyT_take 12 (i := 7) (v := ?vvt7) (by (simp only [List.getElem?_toArray, List.getElem?_cons_zero, List.getElem?_cons_succ]) <;> rfl) (by kernel_rfl) (by kernel_rfl) (by kernel_rfl) (by kernel_rfl) (by kernel_rfl) (by rfl) ?hqt7 (Or.inl ⟨by rfl, ?hyt7⟩) (by assumption) ?_
          case hqt7 => exact fun _ _ _ h => h
          case hyt7 => ((intro w hSw; (try dsimp only at hSw); go_simp) <;> (with_reducible rfl))
          (try simp only [Act.put, List.setIfInBounds_toArray, List.set_cons_zero, List.set_cons_succ])
          refine wpAnyT_ready (rs := [8]) (by kernel_rfl) (by simp) ?_
          refine (AllReadyT.cons (by (simp only [List.getElem?_toArray, List.getElem?_cons_zero, List.getElem?_cons_succ]) <;> rfl) (fun K hK => ?_) AllReadyT.nil)
          go_simp
          refine hK.out _ _ (by first | exact y | exact cell_al y _ | exact cell_al (cell_al y _) _) (fun hHeld => ?_)
          (try clear hK K)
          (try simp only [Act.put, List.setIfInBounds_toArray, List.set_cons_zero, List.set_cons_succ])
          refine wpAnyT_ready (rs := [9]) (by kernel_rfl) (by simp) ?_
          refine (AllReadyT.cons (by (simp only [List.getElem?_toArray, List.getElem?_cons_zero, List.getElem?_cons_succ]) <;> rfl) (fun K hK => ?_) AllReadyT.nil)
          rw [if_pos (by rfl)]
          refine wp_append_ex (.tmp 50) (.tmp 57) 35 rfl (.slice A i c) (.slice (some ⟨_, 0, none⟩) 1 1) rfl rfl _ P.out ?_
          rintro r W2 ⟨A', c', lr', rfl, q2, y, q4⟩
          replace q4 := hide q4
          clear P
          refine hK.out _ _ (by first | exact y | exact cell_al y _ | exact cell_al (cell_al y _) _) (fun hHeld => ?_)
          (try clear hK K)
          (try simp only [Act.put, List.setIfInBounds_toArray, List.set_cons_zero, List.set_cons_succ])
          refine wpAnyT_take 12 (i := 10) (v := ?vvt8) (by (simp only [List.getElem?_toArray, List.getElem?_cons_zero, List.getElem?_cons_succ]) <;> rfl) (by kernel_rfl) (by kernel_rfl) (by kernel_rfl) (by kernel_rfl) (by kernel_rfl) (by rfl) ?hqt8 (Or.inl ⟨by rfl, ?hyt8⟩) (by assumption) ?_
          case hqt8 => exact fun _ _ _ h => h
          case hyt8 => ((intro w hSw; (try dsimp only at hSw); go_simp) <;> (with_reducible rfl))
          (try simp only [Act.put, List.setIfInBounds_toArray, List.set_cons_zero, List.set_cons_succ])
          refine wpAnyT_ready (rs := [11]) (by kernel_rfl) (by simp) ?_
          refine (AllReadyT.last (by (simp only [List.getElem?_toArray, List.getElem?_cons_zero, List.getElem?_cons_succ]) <;> rfl) (by kernel_rfl) (fun K hK => ?_) AllReadyT.nil)
          go_simp
          refine hK.out _ _ ?_
          (try clear hK K)
          (try simp only [Act.put, List.setIfInBounds_toArray, List.set_cons_zero, List.set_cons_succ])
          refine wpAnyT_done (by kernel_rfl) ?_ _
          (try clear hHeld)
          generalize W2.setCell ⟨g, 1, none⟩ (.slice A' (i + 1) c') = W3 at *
          by_cases hnk : n = k
          · have g1 : (n == k) = true := beq_iff_eq.2 hnk
            by_cases hw : want < 0
            · have g2 : decide (want < 0) = true := decide_eq_true hw
              go_wp2
              go_roundw
              case rel => exact ⟨i + 1, v, A', c', lr', hlt, by go_num, rfl, by have := q4.out; rw [if_pos ⟨hnk, hw⟩] at this; exact this⟩
              case measure => simp only [intOf]; omega
            · have g2 : decide (want < 0) = false := decide_eq_false hw
              go_wp2
              go_roundw
              case rel => exact ⟨i + 1, want, A', c', lr', hlt, by go_num, rfl, by have := q4.out; rw [if_neg (fun h => hw h.2)] at this; exact this⟩
              case measure => simp only [intOf]; omega
          · have g1 : (n == k) = false := beq_eq_false_iff_ne.2 hnk
            go_wp2
            go_roundw
            case rel => exact ⟨i + 1, want, A', c', lr', hlt, by go_num, rfl, by have := q4.out; rw [if_neg (fun h => hnk h.1)] at this; exact this⟩
            case measure => simp only [intOf]; omega
      · have hie : i = m := by omega
        subst hie
        have hL := T.bel
        have hi1000 : i ≤ 1000 := by omega
        have NW := hide (fun W => num_d want 1 W (by omega) (by decide) (by decide))
        have CS := hide same_e
        have AW := hide awake10_any
        have BT := hide T.bk
        replace T := hide T
        have SS := hide (fun W (b : Below wr.heap.size wr W) => (show (W.cell? ⟨g, 0, none⟩ = some (.string ⟨#[102]⟩) ∧ W.cell? ⟨g, 1, none⟩ = some (.slice A i c) ∧ W.cell? ⟨g, 2, none⟩ = some (.int .i64 1) ∧ W.cell? ⟨g, 3, none⟩ = some (.bool false) ∧ W.cell? ⟨g, 4, none⟩ = some (.bool r0.s) ∧ W.cell? ⟨g, 5, none⟩ = some (.slice r0.A r0.xs.length r0.a) ∧ W.cell? ⟨g, 6, none⟩ = some (.slice r0.B r0.ys.length r0.b) ∧ W.cell? ⟨g, 7, none⟩ = some (.int .i64 0)) from And.intro ((BT.out.next b).cell rfl) (And.intro ((BT.out.next b).cell rfl) (And.intro ((BT.out.next b).cell rfl) (And.intro ((BT.out.next b).cell rfl) (And.intro ((BT.out.next b).cell rfl) (And.intro ((BT.out.next b).cell rfl) (And.intro ((BT.out.next b).cell rfl) ((BT.out.next b).cell rfl)))))))))
        have bb := bel_dr wr
        go_wp2
        refine wp_region_held_drew (S := fun W => (W.cell? ⟨g, 0, none⟩ = some (.string ⟨#[102]⟩) ∧ W.cell? ⟨g, 1, none⟩ = some (.slice A i c) ∧ W.cell? ⟨g, 2, none⟩ = some (.int .i64 1) ∧ W.cell? ⟨g, 3, none⟩ = some (.bool false) ∧ W.cell? ⟨g, 4, none⟩ = some (.bool r0.s) ∧ W.cell? ⟨g, 5, none⟩ = some (.slice r0.A r0.xs.length r0.a) ∧ W.cell? ⟨g, 6, none⟩ = some (.slice r0.B r0.ys.length r0.b) ∧ W.cell? ⟨g, 7, none⟩ = some (.int .i64 0))) (by kernel_rfl) ?_ (fun hHeld => ?_)
        · (try dsimp only)
          with_reducible exact SS.out _ bb
        refine wpAnyH_take (i := 0) (v := ?vv0) (by (simp only [List.getElem?_toArray, List.getElem?_cons_zero, List.getElem?_cons_succ]) <;> rfl) (by kernel_rfl) (by kernel_rfl) (by kernel_rfl) ?hq0 (Or.inl ⟨by rfl, ?hy0⟩) (by assumption) ?_
        case hq0 => exact fun _ _ _ h => h
        case hy0 => ((intro w hSw; (try dsimp only at hSw); go_simp) <;> (with_reducible rfl))
        (try simp only [Act.put, List.setIfInBounds_toArray, List.set_cons_zero, List.set_cons_succ])
        refine wpAnyH_take (i := 1) (v := ?vv1) (by (simp only [List.getElem?_toArray, List.getElem?_cons_zero, List.getElem?_cons_succ]) <;> rfl) (by kernel_rfl) (by kernel_rfl) (by kernel_rfl) ?hq1 (Or.inl ⟨by rfl, ?hy1⟩) (by assumption) ?_
        case hq1 => exact fun _ _ _ h => h
        case hy1 => ((intro w hSw; (try dsimp only at hSw); go_simp) <;> (with_reducible rfl))
        (try simp only [Act.put, List.setIfInBounds_toArray, List.set_cons_zero, List.set_cons_succ])
        refine wpAnyH_take (i := 5) (v := ?vv5) (by (simp only [List.getElem?_toArray, List.getElem?_cons_zero, List.getElem?_cons_succ]) <;> rfl) (by kernel_rfl) (by kernel_rfl) (by kernel_rfl) ?hq5 (Or.inl ⟨by rfl, ?hy5⟩) (by assumption) ?_
        case hq5 => exact fun _ _ _ h => h
        case hy5 => ((intro w hSw; (try dsimp only at hSw); go_simp) <;> (with_reducible rfl))
        (try simp only [Act.put, List.setIfInBounds_toArray, List.set_cons_zero, List.set_cons_succ])
        refine wpAnyH_ready (rs := [2]) (by kernel_rfl) (by simp) ?_
        refine AllReadyH.cons (by (simp only [List.getElem?_toArray, List.getElem?_cons_zero, List.getElem?_cons_succ]) <;> rfl) (fun K hK => ?_) AllReadyH.nil
        go_simp
        (go_at_call 29; (with_reducible refine (NK.out _).mono ?_); rintro e wz ⟨r, rfl, nr, hb⟩; replace bb := bl_trans bb hb; have AP := hide (T.out.ap1 hi1000 bb nr); clear hb nr)
        (try go_wp2_with fail)
        refine hK.out _ _ ?_ (fun hHeld => ?_)
        · (try dsimp only)
          with_reducible exact SS.out _ bb
        (try clear hK K)
        (try simp only [Act.put, List.setIfInBounds_toArray, List.set_cons_zero, List.set_cons_succ])
        refine wpAnyH_ready (rs := [3]) (by kernel_rfl) (by simp) ?_
        refine AllReadyH.cons (by (simp only [List.getElem?_toArray, List.getElem?_cons_zero, List.getElem?_cons_succ]) <;> rfl) (fun K hK => ?_) AllReadyH.nil
        go_simp
        refine hK.out _ _ ?_ (fun hHeld => ?_)
        · (try dsimp only)
          with_reducible exact SS.out _ (bl_al bb _)
        (try clear hK K)
        (try simp only [Act.put, List.setIfInBounds_toArray, List.set_cons_zero, List.set_cons_succ])
        refine wpAnyH_ready (rs := [4]) (by kernel_rfl) (by simp) ?_
        refine AllReadyH.cons (by (simp only [List.getElem?_toArray, List.getElem?_cons_zero, List.getElem?_cons_succ]) <;> rfl) (fun K hK => ?_) AllReadyH.nil
        go_simp
        (go_at_call 15; (with_reducible refine (AP.out).mono ?_); rintro e wz ⟨v, rfl, V, hb⟩; replace bb := bl_trans (bl_al bb _) hb; clear hb AP; replace V := hide V)
        (try go_wp2_with fail)
        refine hK.out _ _ ?_ (fun hHeld => ?_)
        · (try dsimp only)
          with_reducible exact SS.out _ bb
        (try clear hK K)
        (try simp only [Act.put, List.setIfInBounds_toArray, List.set_cons_zero, List.set_cons_succ])
        refine wpAnyH_ready (rs := [6]) (by kernel_rfl) (by simp) ?_
        refine AllReadyH.cons (by (simp only [List.getElem?_toArray, List.getElem?_cons_zero, List.getElem?_cons_succ]) <;> rfl) (fun K hK => ?_) AllReadyH.nil
        go_simp
        (go_at_call 29; (with_reducible refine (NW.out _).mono ?_); rintro e wz ⟨r, rfl, nr, hb⟩; replace bb := bl_trans bb hb; have SM := hide (CS.out v r (cq (Rat.divInt want 1)) (Rat.divInt want 1) wz (V.out.next hb) nr rfl); clear V; clear hb nr)
        (try go_wp2_with fail)
        refine hK.out _ _ ?_ (fun hHeld => ?_)
        · (try dsimp only)
          with_reducible exact SS.out _ bb
        (try clear hK K)
        (try simp only [Act.put, List.setIfInBounds_toArray, List.set_cons_zero, List.set_cons_succ])
        refine wpAnyH_ready (rs := [7]) (by kernel_rfl) (by simp) ?_
        refine AllReadyH.cons (by (simp only [List.getElem?_toArray, List.getElem?_cons_zero, List.getElem?_cons_succ]) <;> rfl) (fun K hK => ?_) AllReadyH.nil
        go_simp
        (go_at_call 14; (with_reducible refine (SM.out).mono ?_); rintro e wz ⟨rfl, hb⟩; replace bb := bl_trans bb hb; clear hb SM)
        (try go_wp2_with fail)
        refine hK.out _ _ ?_ (fun hHeld => ?_)
        · (try dsimp only)
          with_reducible exact SS.out _ bb
        (try clear hK K)
        (try simp only [Act.put, List.setIfInBounds_toArray, List.set_cons_zero, List.set_cons_succ])
        refine wpAnyH_take (i := 8) (v := ?vv8) (by (simp only [List.getElem?_toArray, List.getElem?_cons_zero, List.getElem?_cons_succ]) <;> rfl) (by kernel_rfl) (by kernel_rfl) (by kernel_rfl) ?hq8 (Or.inl ⟨by rfl, ?hy8⟩) (by assumption) ?_
        case hq8 => exact fun _ _ _ h => h
        case hy8 => ((intro w hSw; (try dsimp only at hSw); go_simp) <;> (with_reducible rfl))
        (try simp only [Act.put, List.setIfInBounds_toArray, List.set_cons_zero, List.set_cons_succ])
        refine wpAnyH_take (i := 9) (v := ?vv9) (by (simp only [List.getElem?_toArray, List.getElem?_cons_zero, List.getElem?_cons_succ]) <;> rfl) (by kernel_rfl) (by kernel_rfl) (by kernel_rfl) ?hq9 (Or.inl ⟨by rfl, ?hy9⟩) (by assumption) ?_
        case hq9 => exact fun _ _ _ h => h
        case hy9 => ((intro w hSw; (try dsimp only at hSw); go_simp) <;> (with_reducible rfl))
        (try simp only [Act.put, List.setIfInBounds_toArray, List.set_cons_zero, List.set_cons_succ])
        refine wpAnyH_ready (rs := [10]) (by kernel_rfl) (by simp) ?_
        refine AllReadyH.cons (by (simp only [List.getElem?_toArray, List.getElem?_cons_zero, List.getElem?_cons_succ]) <;> rfl) (fun K hK => ?_) AllReadyH.nil
        go_simp
        (go_at_call 15; (with_reducible refine (T.out.ap0 hi1000 bb).mono ?_); rintro e wz ⟨v, rfl, V, hb⟩; replace bb := bl_trans bb hb; clear hb; replace V := hide V)
        (try go_wp2_with fail)
        refine hK.out _ _ ?_ (fun hHeld => ?_)
        · (try dsimp only)
          with_reducible exact SS.out _ bb
        (try clear hK K)
        (try simp only [Act.put, List.setIfInBounds_toArray, List.set_cons_zero, List.set_cons_succ])
        refine wpAnyH_ready (rs := [11]) (by kernel_rfl) (by simp) ?_
        refine AllReadyH.cons (by (simp only [List.getElem?_toArray, List.getElem?_cons_zero, List.getElem?_cons_succ]) <;> rfl) (fun K hK => ?_) AllReadyH.nil
        go_simp
        (go_at_call 29; (with_reducible refine (N0.out _).mono ?_); rintro e wz ⟨r, rfl, nr, hb⟩; replace bb := bl_trans bb hb; have SM := hide (CS.out v r (cq (Rat.divInt (-1) 1)) (Rat.divInt (-1) 1) wz (V.out.next hb) nr rfl); clear V; clear hb nr)
        (try go_wp2_with fail)
        refine hK.out _ _ ?_ (fun hHeld => ?_)
        · (try dsimp only)
          with_reducible exact SS.out _ bb
        (try clear hK K)
        (try simp only [Act.put, List.setIfInBounds_toArray, List.set_cons_zero, List.set_cons_succ])
        refine wpAnyH_ready (rs := [12]) (by kernel_rfl) (by simp) ?_
        refine AllReadyH.cons (by (simp only [List.getElem?_toArray, List.getElem?_cons_zero, List.getElem?_cons_succ]) <;> rfl) (fun K hK => ?_) AllReadyH.nil
        go_simp
        (go_at_call 14; (with_reducible refine (SM.out).mono ?_); rintro e wz ⟨rfl, hb⟩; replace bb := bl_trans bb hb; clear hb SM)
        (try go_wp2_with fail)
        refine hK.out _ _ ?_ (fun hHeld => ?_)
        · (try dsimp only)
          with_reducible exact SS.out _ bb
        (try clear hK K)
        (try simp only [Act.put, List.setIfInBounds_toArray, List.set_cons_zero, List.set_cons_succ])
        refine wpAnyH_take (i := 13) (v := ?vv13) (by (simp only [List.getElem?_toArray, List.getElem?_cons_zero, List.getElem?_cons_succ]) <;> rfl) (by kernel_rfl) (by kernel_rfl) (by kernel_rfl) ?hq13 (Or.inl ⟨by rfl, ?hy13⟩) (by assumption) ?_
        case hq13 => exact fun _ _ _ h => h
        case hy13 => ((intro w hSw; (try dsimp only at hSw); go_simp) <;> (with_reducible rfl))
        (try simp only [Act.put, List.setIfInBounds_toArray, List.set_cons_zero, List.set_cons_succ])
        refine wpAnyH_take (i := 14) (v := ?vv14) (by (simp only [List.getElem?_toArray, List.getElem?_cons_zero, List.getElem?_cons_succ]) <;> rfl) (by kernel_rfl) (by kernel_rfl) (by kernel_rfl) ?hq14 (Or.inl ⟨by rfl, ?hy14⟩) (by assumption) ?_
        case hq14 => exact fun _ _ _ h => h
        case hy14 => ((intro w hSw; (try dsimp only at hSw); go_simp) <;> (with_reducible rfl))
        (try simp only [Act.put, List.setIfInBounds_toArray, List.set_cons_zero, List.set_cons_succ])
        refine wpAnyH_take (i := 15) (v := ?vv15) (by (simp only [List.getElem?_toArray, List.getElem?_cons_zero, List.getElem?_cons_succ]) <;> rfl) (by kernel_rfl) (by kernel_rfl) (by kernel_rfl) ?hq15 (Or.inl ⟨by rfl, ?hy15⟩) (by assumption) ?_
        case hq15 => exact fun _ _ _ h => h
        case hy15 => ((intro w hSw; (try dsimp only at hSw); go_simp) <;> (with_reducible rfl))
        (try simp only [Act.put, List.setIfInBounds_toArray, List.set_cons_zero, List.set_cons_succ])
        refine wpAnyH_take (i := 16) (v := ?vv16) (by (simp only [List.getElem?_toArray, List.getElem?_cons_zero, List.getElem?_cons_succ]) <;> rfl) (by kernel_rfl) (by kernel_rfl) (by kernel_rfl) ?hq16 (Or.inl ⟨by rfl, ?hy16⟩) (by assumption) ?_
        case hq16 => exact fun _ _ _ h => h
        case hy16 => ((intro w hSw; (try dsimp only at hSw); go_simp) <;> (with_reducible rfl))
        (try simp only [Act.put, List.setIfInBounds_toArray, List.set_cons_zero, List.set_cons_succ])
        refine wpAnyH_take (i := 17) (v := ?vv17) (by (simp only [List.getElem?_toArray, List.getElem?_cons_zero, List.getElem?_cons_succ]) <;> rfl) (by kernel_rfl) (by kernel_rfl) (by kernel_rfl) ?hq17 (Or.inl ⟨by rfl, ?hy17⟩) (by assumption) ?_
        case hq17 => exact fun _ _ _ h => h
        case hy17 => ((intro w hSw; (try dsimp only at hSw); go_simp) <;> (with_reducible rfl))
        (try simp only [Act.put, List.setIfInBounds_toArray, List.set_cons_zero, List.set_cons_succ])
        refine wpAnyH_ready (rs := [18]) (by kernel_rfl) (by simp) ?_
        refine AllReadyH.cons (by (simp only [List.getElem?_toArray, List.getElem?_cons_zero, List.getElem?_cons_succ]) <;> rfl) (fun K hK => ?_) AllReadyH.nil
        go_simp
        refine hK.out _ _ ?_ (fun hHeld => ?_)
        · (try dsimp only)
          with_reducible exact SS.out _ (bl_al bb _)
        (try clear hK K)
        (try simp only [Act.put, List.setIfInBounds_toArray, List.set_cons_zero, List.set_cons_succ])
        refine wpAnyH_ready (rs := [19]) (by kernel_rfl) (by simp) ?_
        refine AllReadyH.cons (by (simp only [List.getElem?_toArray, List.getElem?_cons_zero, List.getElem?_cons_succ]) <;> rfl) (fun K hK => ?_) AllReadyH.nil
        go_simp
        (go_at_call 15; (with_reducible refine (T.out.ap2 hi1000 k (W1 := _) bb).mono ?_); rintro e wz ⟨v, rfl, V, hb⟩; replace bb := bl_trans (bl_al bb _) hb; clear hb; replace V := hide V)
        (try go_wp2_with fail)
        refine hK.out _ _ ?_ (fun hHeld => ?_)
        · (try dsimp only)
          with_reducible exact SS.out _ bb
        (try clear hK K)
        (try simp only [Act.put, List.setIfInBounds_toArray, List.set_cons_zero, List.set_cons_succ])
        refine wpAnyH_ready (rs := [20]) (by kernel_rfl) (by simp) ?_
        refine AllReadyH.cons (by (simp only [List.getElem?_toArray, List.getElem?_cons_zero, List.getElem?_cons_succ]) <;> rfl) (fun K hK => ?_) AllReadyH.nil
        go_simp
        (go_at_call 29; (with_reducible refine (N0.out _).mono ?_); rintro e wz ⟨r, rfl, nr, hb⟩; replace bb := bl_trans bb hb; have SM := hide (CS.out v r (cq (Rat.divInt (-1) 1)) (Rat.divInt (-1) 1) wz (V.out.next hb) nr rfl); clear V; clear hb nr)
        (try go_wp2_with fail)
        refine hK.out _ _ ?_ (fun hHeld => ?_)
        · (try dsimp only)
          with_reducible exact SS.out _ bb
        (try clear hK K)
        (try simp only [Act.put, List.setIfInBounds_toArray, List.set_cons_zero, List.set_cons_succ])
        refine wpAnyH_ready (rs := [21]) (by kernel_rfl) (by simp) ?_
        refine AllReadyH.cons (by (simp only [List.getElem?_toArray, List.getElem?_cons_zero, List.getElem?_cons_succ]) <;> rfl) (fun K hK => ?_) AllReadyH.nil
        go_simp
        (go_at_call 14; (with_reducible refine (SM.out).mono ?_); rintro e wz ⟨rfl, hb⟩; replace bb := bl_trans bb hb; clear hb SM)
        (try go_wp2_with fail)
        refine hK.out _ _ ?_ (fun hHeld => ?_)
        · (try dsimp only)
          with_reducible exact SS.out _ bb
        (try clear hK K)
        (try simp only [Act.put, List.setIfInBounds_toArray, List.set_cons_zero, List.set_cons_succ])
        refine wpAnyH_take (i := 22) (v := ?vv22) (by (simp only [List.getElem?_toArray, List.getElem?_cons_zero, List.getElem?_cons_succ]) <;> rfl) (by kernel_rfl) (by kernel_rfl) (by kernel_rfl) ?hq22 (Or.inl ⟨by rfl, ?hy22⟩) (by assumption) ?_
        case hq22 => exact fun _ _ _ h => h
        case hy22 => ((intro w hSw; (try dsimp only at hSw); go_simp) <;> (with_reducible rfl))
        (try simp only [Act.put, List.setIfInBounds_toArray, List.set_cons_zero, List.set_cons_succ])
        refine wpAnyH_take (i := 23) (v := ?vv23) (by (simp only [List.getElem?_toArray, List.getElem?_cons_zero, List.getElem?_cons_succ]) <;> rfl) (by kernel_rfl) (by kernel_rfl) (by kernel_rfl) ?hq23 (Or.inl ⟨by rfl, ?hy23⟩) (by assumption) ?_
        case hq23 => exact fun _ _ _ h => h
        case hy23 => ((intro w hSw; (try dsimp only at hSw); go_simp) <;> (with_reducible rfl))
        (try simp only [Act.put, List.setIfInBounds_toArray, List.set_cons_zero, List.set_cons_succ])
        refine wpAnyH_ready (rs := [24]) (by kernel_rfl) (by simp) ?_
        refine AllReadyH.cons (by (simp only [List.getElem?_toArray, List.getElem?_cons_zero, List.getElem?_cons_succ]) <;> rfl) (fun K hK => ?_) AllReadyH.nil
        go_simp
        (go_at_call 9; (with_reducible refine (AW.out _).mono ?_); rintro e wz ⟨rfl, hb⟩; replace bb := bl_trans bb hb; clear hb AW)
        (try go_wp2_with fail)
        refine hK.out _ _ ?_ (fun hHeld => ?_)
        · (try dsimp only)
          with_reducible exact SS.out _ bb
        (try clear hK K)
        (try simp only [Act.put, List.setIfInBounds_toArray, List.set_cons_zero, List.set_cons_succ])
        refine wpAnyH_take (i := 25) (v := ?vv25) (by (simp only [List.getElem?_toArray, List.getElem?_cons_zero, List.getElem?_cons_succ]) <;> rfl) (by kernel_rfl) (by kernel_rfl) (by kernel_rfl) ?hq25 (Or.inl ⟨by rfl, ?hy25⟩) (by assumption) ?_
        case hq25 => exact fun _ _ _ h => h
        case hy25 => ((intro w hSw; (try dsimp only at hSw); go_simp) <;> (with_reducible rfl))
        (try simp only [Act.put, List.setIfInBounds_toArray, List.set_cons_zero, List.set_cons_succ])
        refine wpAnyH_take (i := 26) (v := ?vv26) (by (simp only [List.getElem?_toArray, List.getElem?_cons_zero, List.getElem?_cons_succ]) <;> rfl) (by kernel_rfl) (by kernel_rfl) (by kernel_rfl) ?hq26 (Or.inl ⟨by rfl, ?hy26⟩) (by assumption) ?_
        case hq26 => exact fun _ _ _ h => h
        case hy26 => ((intro w hSw; (try dsimp only at hSw); go_simp) <;> (with_reducible rfl))
        (try simp only [Act.put, List.setIfInBounds_toArray, List.set_cons_zero, List.set_cons_succ])
        refine wpAnyH_done (by kernel_rfl) ?_ _
        go_wp2_with fail
        go_ret
        exact ⟨rfl, bl_trans hL bb⟩
end Nt
end Go.Proofs.YthabfakbdfaciaaGreat
end
section
namespace Go.Proofs.YthabfakbdfaciaaGreat
open Go.ChangeShapes Go.WideShapes Go.ChangeAt Go.RowKit
namespace Nt

theorem own : ownKnob Tryz.prog.godebug = none := by kernel_rfl
theorem cellsI : Tryz.prog.cellsOf 3 = 1 := by kernel_rfl

theorem law_post {H : Type} {enc : TypeId × Value → H} {P : Program} {f : Func} {s : ChangeSpec} {W W' : World} {args : Array Value} {v : Value} {ds gs : List (DataW H)} {before : List MemPlace}
    (hW : DataW.Whole enc P f.params.toList s.vars false W args.toList ds gs before) (hb : Below W.heap.size W W')
    (hargs : ∀ sp : Nat → Bool, (∀ p ∈ before, sp p.block = true) → DataW.TrodAll enc P W' 0 sp true f.params.toList args.toList (s.fn H (ds ++ gs)).args before)
    (hvars : ∀ sp : Nat → Bool, DataW.TrodVars enc P W' sp s.vars (s.fn H (ds ++ gs)).vars [])
    (hres : ∀ (b : Nat) (sp : Nat → Bool) (hd : Bool), DataW.TrodAll enc P W' b sp hd f.resultTypes.toList (v.resultList f.resultTypes.size) (s.fn H (ds ++ gs)).results [])
    (hok : ∀ (j : Nat) (t : TypeId) (r : Value), f.resultTypes[j]? = some t → (v.resultList f.resultTypes.size)[j]? = some r → Value.okWide P W' .any 0 t r) :
    s.post enc P f false true false false W args v W' := by
  have hlt : ∀ p ∈ before, p.block < W.heap.size := fun p hp => hW.lt p hp
  have low : ∀ p ∈ before, (fun b => decide (b < W.heap.size)) p.block = true := fun p hp => decide_eq_true (hlt p hp)
  have fr := hb.frame (· ∈ before)
  obtain ⟨_, _, _, _, _, hz, _⟩ := id hW
  refine ⟨ds, gs, before, [], before, [], hW, hres _ _ _, hargs _ low, hvars _, World.keptBut_mono (fun p hp => ⟨hp, .inr (.inl hp)⟩) fr, fun _ => ⟨hok, _, _, ([] ++ before) ++ [], ⟨[] ++ before, [], trodAll_append (hargs _ (fun _ _ => rfl)) (hres _ _ _), hvars _, rfl, ?_, ?_⟩, ?_⟩⟩
  · intro b off hp
    have hin : MemPlace.cell b off ∈ before := by simpa using hp
    rw [hb.frozen (hlt _ hin)]
    exact hz b off hin
  · intro ha
    cases ha
  · intro p hp _
    simpa using hp

set_option maxRecDepth 100000 in
theorem arg_ints {H : Type} {enc : TypeId × Value → H} {W : World} {base : Nat} {v : Value} {d : DataW H} {p : List MemPlace} (hval : Value.okWide Tryz.prog W .any base 57 v) (h : DataW.Trod enc Tryz.prog W 0 (fun _ => true) true 57 v d p) :
    ∃ A c xs, v = .slice A xs.length c ∧ Ir [] W A xs ∧ xs.length ≤ maxLen ∧ xs.length ≤ c ∧
      ∀ W', Below W.heap.size W W' → ∀ sp : Nat → Bool, (∀ x ∈ p, sp x.block = true) → DataW.Trod enc Tryz.prog W' 0 sp true 57 v d p := by
  obtain ⟨A, n, c, rfl⟩ := okWide_slice Tryz.underlying57 hval
  obtain ⟨fuel, hf⟩ := h
  rcases open_ints Tryz.underlying57 Tryz.underlying3 cellsI hf with ⟨hcs, hx⟩ | ⟨a, len, cap, zs, hcs, _, hl, hm, hz, hx, hcell, hw⟩
  · simp [Value.cells] at hcs
    obtain ⟨rfl, rfl, rfl⟩ := hcs
    simp only [Prod.mk.injEq] at hx
    obtain ⟨rfl, rfl⟩ := hx
    exact ⟨none, 0, [], rfl, .inl rfl, Nat.zero_le _, Nat.le_refl _, fun W' _ sp _ => shut_slice_nil Tryz.underlying57⟩
  · simp [Value.cells] at hcs
    obtain ⟨rfl, rfl, rfl⟩ := hcs
    simp only [Prod.mk.injEq] at hx
    obtain ⟨rfl, rfl⟩ := hx
    simp only [if_true] at hz
    have hlen : (zs.take n).length = n := by rw [List.length_take]; omega
    refine ⟨some a, c, zs.take n, by rw [hlen], ?_, by rw [hlen]; omega, by rw [hlen]; omega, ?_⟩
    · by_cases h0 : n = 0
      · subst h0; exact .inl (by simp)
      · obtain ⟨b, off, spot⟩ := a
        have hc0 := hcell 0 (by omega)
        have hspot : spot = none := by simpa [Addr.add] using World.cell?_spot hc0
        subst hspot
        refine .inr ⟨b, off, rfl, ?_, by simp, fun j hj => ?_⟩
        · have : ∃ y, W.heap[b]? = some y := by
            simp only [Addr.add, if_true, World.cell?] at hc0
            cases hh : W.heap[b]? with
            | none => rw [hh] at hc0; cases hc0
            | some y => exact ⟨y, rfl⟩
          obtain ⟨y, hy⟩ := this
          exact (Array.getElem?_eq_some_iff.1 hy).1
        · rw [hlen] at hj
          have := hcell j (by omega)
          rw [Addr.add_lit] at this
          rw [this]
          simp only [List.getD_eq_getElem?_getD, List.getElem?_take_of_lt hj]
    · intro W' hb sp hsp
      have hcell' : ∀ i, i < zs.length → W'.cell? (a.add i) = some (.int .i64 (zs.getD i 0)) := by
        intro i hi
        have h1 := hcell i hi
        have hlt : a.block < W.heap.size := by
          unfold World.cell? at h1
          rw [block_add] at h1
          cases hh : W.heap[a.block]? with
          | none => rw [hh] at h1; cases h1
          | some y => exact (Array.getElem?_eq_some_iff.1 hh).1
        rw [← h1]
        exact World.cell?_of_block (w := W) (by rw [block_add]; exact hb.block _ hlt)
      by_cases hz0 : zs.length = 0
      · have hc0 : c = 0 := by omega
        have hl0 : n = 0 := by omega
        subst hc0; subst hl0
        have t0 := shut_ints (enc := enc) (w := W') (base := 0) (spare := sp) (held := true) (a := a) (len := 0) (cap := 0) (zs := zs) 0 Tryz.underlying57 Tryz.underlying3 cellsI (Nat.zero_le _) (Nat.le_refl _) hm (by simp [hz0]) hcell' hw
        exact ⟨2, by simpa [Value.cells] using t0⟩
      · have hspb : sp a.block = true := hsp (.cell a.block a.off) (MemPlace.mem_row.2 ⟨0, by omega, by simp⟩)
        have t0 := shut_ints (enc := enc) (w := W') (base := 0) (spare := sp) (held := true) (a := a) (len := n) (cap := c) (zs := zs) 0 Tryz.underlying57 Tryz.underlying3 cellsI (Nat.zero_le _) hl hm (by simp [hspb, hz]) hcell' hw
        exact ⟨2, by simpa [Value.cells] using t0⟩

noncomputable def lw (os : Os) : World := World.laidAll Tryz.prog os Rows.modelTablesTellRow.laid
theorem lw_met (os : Os) (args : Array Value) : laidMet Tryz.prog Rows.modelTablesTellRow.laid ((lw os).forCall (fun _ _ => 0) ⟨#[], args, []⟩).memory :=
  laidMet_laidAll args (by kernel_rfl) (by kernel_rfl)
end Nt
end Go.Proofs.YthabfakbdfaciaaGreat
end
