import Derived.Test.YthabfakbdfaciaaGreatOB6
import Derived.Deep.DeepCutAuto
import Derived.Test.YthabfakbdfaciaaGreatOB7
import Derived.Laws.MakeOwn
import Derived.Deep.Upon
import Derived.Deep.AppendSrc
import Derived.OrdersHeld
import Derived.Deep.RegionHeld
import Derived.BigRegion
import Derived.Deep.RegionHeld3
namespace Go.Proofs.YthabfakbdfaciaaGreat
namespace Nt
set_option maxRecDepth 100000
set_option linter.unusedSimpArgs false
set_option linter.unusedVariables false
set_option maxHeartbeats 16000000
section
open Go.ChangeShapes Go.RowKit
structure Pt where
  s : Bool
  A : Option Addr
  a : Nat
  xs : List Nat
  B : Option Addr
  b : Nat
  ys : List Nat
  t : Int
def Pt.At (p : Pt) (W : World) : Prop := Sl W p.A p.xs ∧ Sl W p.B p.ys
def Pt.ok (p : Pt) : Bool := validQ p.s p.xs p.ys
structure Pt.Few (p : Pt) : Prop where
  lx : Limbs p.xs
  ly : Limbs p.ys
  mx : p.xs.length ≤ 1000000
  my : p.ys.length ≤ 1000000
section
variable {w w' W : World} {p : Pt} {A : Option Addr} {l : List Pt}
theorem Pt.At.next (h : p.At w) (hb : Below w.heap.size w w') : p.At w' := ⟨kp' hb h.1, kp' hb h.2⟩
end
def noU : Value → Bool
  | .int .u64 _ => false
  | _ => true
section
variable {B g m : Nat} {w w' : World} {l : List Pt}
end
def Pt.q (p : Pt) : Rat := qmk p.s (val p.xs) (val p.ys)
structure Pt.Ok (p : Pt) : Prop where
  s : p.s = qs p.q
  x : p.xs = digs (qn p.q)
  y : p.ys = digs (qd p.q)
  f : fitq p.q
def rv (p : Pt) : Value := .agg #[.bool p.s, .slice p.A p.xs.length p.a, .slice p.B p.ys.length p.b]
def mkP (q : Rat) (A : Option Addr) (a : Nat) (B : Option Addr) (b : Nat) (t : Int) : Pt := ⟨qs q, A, a, digs (qn q), B, b, digs (qd q), t⟩
theorem mkP_q (q : Rat) (A : Option Addr) (a : Nat) (B : Option Addr) (b : Nat) (t : Int) : (mkP q A a B b t).q = q := by
  show qmk (qs q) (val (digs (qn q))) (val (digs (qd q))) = q
  rw [val_digs, val_digs, qmk_self]
theorem mkP_ok {q : Rat} (f : fitq q) (A : Option Addr) (a : Nat) (B : Option Addr) (b : Nat) (t : Int) : (mkP q A a B b t).Ok := by
  refine ⟨?_, ?_, ?_, ?_⟩ <;> rw [mkP_q]
  · rfl
  · rfl
  · rfl
  · exact f
theorem Pt.Ok.rv {p : Pt} (h : p.Ok) : rv p = .agg #[.bool (qs p.q), .slice p.A (ln (qn p.q)) p.a, .slice p.B (ln (qd p.q)) p.b] := by
  obtain ⟨h1, h2, h3, _⟩ := h
  unfold Nt.rv
  generalize p.q = q at *
  rw [h1, h2, h3]
  rfl
theorem Pt.Ok.sl {p : Pt} {w : World} (h : p.Ok) (hA : p.At w) : Sl w p.A (digs (qn p.q)) ∧ Sl w p.B (digs (qd p.q)) := by
  rw [← h.x, ← h.y]
  exact hA
theorem Pt.Ok.few {p : Pt} (h : p.Ok) : p.Few :=
  ⟨by rw [h.x]; exact limbs_digs _, by rw [h.y]; exact limbs_digs _, by rw [h.x]; exact Nat.le_trans h.f.1 (by decide), by rw [h.y]; exact Nat.le_trans h.f.2 (by decide)⟩
theorem Pt.Ok.valid {p : Pt} (h : p.Ok) : p.ok = true := by
  unfold Pt.ok
  rw [h.s, h.x, h.y]
  exact validQ_q p.q h.f.1 h.f.2
def NewQ (q : Rat) (t : Int) (w : World) (e : Ending) (w' : World) : Prop := ∃ r : Pt, e = .returned (.tuple #[.agg #[.bool r.s, .slice r.A r.xs.length r.a, .slice r.B r.ys.length r.b], .int .i64 0]) ∧ r.q = q ∧ r.t = t ∧ r.Ok ∧ r.At w' ∧ Below w.heap.size w w'
theorem RQE.newQ {q : Rat} {w w' : World} {e : Ending} (h : RQE w q e w') (f : fitq q) (t : Int) : NewQ q t w e w' := by
  obtain ⟨A, c, B, d, rfl, sA, sB, hb⟩ := h
  exact ⟨mkP q A c B d t, rfl, mkP_q _ _ _ _ _ _, rfl, mkP_ok f _ _ _ _ _, ⟨sA, sB⟩, hb⟩
def C3 (g : Nat) (u v x : Value) (w : World) : Prop := w.cell? ⟨g, 0, none⟩ = some u ∧ w.cell? ⟨g, 1, none⟩ = some v ∧ w.cell? ⟨g, 2, none⟩ = some x
section
variable {w W W' : World} {g : Nat} {u v x y : Value} {t : TypeId}
theorem C3.next (h : C3 g u v x w) (hb : Below w.heap.size w W) : C3 g u v x W := ⟨cell_next hb h.1, cell_next hb h.2.1, cell_next hb h.2.2⟩
theorem C3.of (h : Bk g #[u, v, x] t W) : C3 g u v x W := ⟨h.cell rfl, h.cell rfl, h.cell rfl⟩
end
section
variable {w W W' : World} {c kk : Pt} {A : Option Addr} {n kc g : Nat} {l : List Pt}
end
theorem list_at {xs ys : List Nat} {i : Nat} (hx : i < xs.length) (hy : i < ys.length) (h : xs.take i = ys.take i) : (xs.take (i + 1) = ys.take (i + 1)) ↔ lim xs i = lim ys i := by
  have e1 : xs.take (i + 1) = xs.take i ++ [xs[i]] := by rw [List.take_add_one, List.getElem?_eq_getElem hx]; rfl
  have e2 : ys.take (i + 1) = ys.take i ++ [ys[i]] := by rw [List.take_add_one, List.getElem?_eq_getElem hy]; rfl
  have e3 : lim xs i = xs[i] := by unfold lim; simp [List.getD_eq_getElem?_getD, List.getElem?_eq_getElem hx]
  have e4 : lim ys i = ys[i] := by unfold lim; simp [List.getD_eq_getElem?_getD, List.getElem?_eq_getElem hy]
  rw [e1, e2, e3, e4, h]
  exact ⟨fun e => by have := List.append_cancel_left e; injection this, fun e => by rw [e]⟩
theorem equal_w (A B : Option Addr) (c d : Nat) (xs ys : List Nat) (w : World) (hx : Sl w A xs) (hy : Sl w B ys) (lx : xs.length ≤ 1000000) (ly : ys.length ≤ 1000000) (r : Bool) (hr : decide (xs = ys) = r) :
    Calls Tryz.prog 62 #[.slice A xs.length c, .slice B ys.length d] w fun e w' => e = .returned (.bool r) ∧ Below w.heap.size w w' := by
  subst hr
  by_cases hl : xs.length = ys.length
  · have hbd : ∀ n, Below w.heap.size w (w.drewN n) := fun n => ((Off.refl [] w).drewN n).below (Nat.le_refl _) (by simp)
    have ht : xs.take xs.length = xs := List.take_length
    have ht' : ys.take xs.length = ys := by rw [hl]; exact List.take_length
    obtain ⟨n, hn⟩ : ∃ n, n = xs.length := ⟨_, rfl⟩
    rw [← hl, ← hn]
    rw [← hn] at lx ht ht' hl
    have hl' := hide hl
    have hn' := hide hn
    have hxc := hide hx
    have hyc := hide hy
    replace hbd := hide hbd; replace ht := hide ht; replace ht' := hide ht'
    clear hl hn hx hy ly
    go_enter Tryz.func62, Tryz.ntmps62
    go_wp2_with fail
    go_loopw [13] (fun ix wr => ∃ i k : Nat, i ≤ n ∧ ix = .int .i64 (i : Int) ∧ wr = w.drewN k ∧ xs.take i = ys.take i) (fun ix _ => n - (intOf ix).toNat)
    case atStart => exact ⟨0, 0, Nat.zero_le _, rfl, rfl, rfl⟩
    case round =>
      obtain ⟨i, k, hi, rfl, rfl, htk⟩ := hrel
      by_cases hlt : i < n
      · have h1 : i < xs.length := by rw [← hn'.out]; exact hlt
        have h2 : i < ys.length := by rw [← hl'.out]; exact hlt
        have hiff := hide (list_at h1 h2 htk)
        rcases hxc.out with h | ⟨b1, o1, rfl, _, c1⟩
        · rw [h] at h1; simp at h1
        rcases hyc.out with h | ⟨b2, o2, rfl, _, c2⟩
        · rw [h] at h2; simp at h2
        have k1 := c1 i h1
        have k2 := c2 i h2
        clear c1 c2 htk
        obtain ⟨x, hx⟩ : ∃ x, x = lim xs i := ⟨_, rfl⟩
        obtain ⟨y, hy⟩ : ∃ y, y = lim ys i := ⟨_, rfl⟩
        rw [← hx] at k1
        rw [← hy] at k2
        rw [← hx, ← hy] at hiff
        clear hx hy
        have hlt' : (i : Int) < (n : Int) := by omega
        by_cases he : x = y
        · subst he
          go_wp2_with fail
          go_quiet (fail)
          go_wp2_with fail
          go_roundw
          case rel => exact ⟨i + 1, _, hlt, by go_num, by first | rfl | (rw [World.drewN_drewN]), by first | exact hiff.out.2 rfl | exact hiff.out.2 trivial⟩
          case measure => simp only [intOf]; omega
        · have q1 : ((x : Int) != (y : Int)) = true := by simp; omega
          have q2 : ((x : Int) == (y : Int)) = false := by simp; omega
          have q3 : ¬ ((x : Int) = (y : Int)) := by omega
          go_wp2_with fail
          go_quiet (fail)
          go_wp2_with fail
          have hne : xs ≠ ys := fun e => he (hiff.out.1 (by rw [e]))
          go_ret
          exact ⟨by rw [decide_eq_false hne]; rfl, by first | exact hbd.out _ | (rw [World.drewN_drewN]; exact hbd.out _)⟩
      · have hin : i = n := by omega
        subst hin
        rw [ht.out, ht'.out] at htk
        have hd : decide (xs = ys) = true := decide_eq_true htk
        clear htk
        go_wp2_with fail
        go_ret
        exact ⟨by rw [hd]; rfl, hbd.out _⟩
  · have hne : xs ≠ ys := fun e => hl (by rw [e])
    have hd : decide (xs = ys) = false := decide_eq_false hne
    have q1 : ((xs.length : Int) != (ys.length : Int)) = true := by simp; omega
    clear hx hy hne
    rw [hd]
    clear hd
    generalize xs.length = n at *
    generalize ys.length = m at *
    have hl2 : ¬ ((n : Int) = (m : Int)) := by omega
    go_enter Tryz.func62, Tryz.ntmps62
    go_wp2_with fail
    go_ret
    exact ⟨rfl, .refl _ _⟩
theorem eqb (u v : Bool) (W : World) : (binOp .eql 4 (.bool u) (.bool v)).run Tryz.prog W = .ok (.bool (u == v)) W := by cases u <;> cases v <;> kernel_rfl
section
variable {x y : Rat × Int} {l m : List (Rat × Int)}
end
section
variable {w W W' : World} {c d : Pt} {A B : Option Addr} {n kc k kd mm g : Nat} {l : List Pt}
end
end
section
open Go.ChangeShapes Go.RowKit
structure Rt (α : Type) where
  enc : α → List Value
  k : Nat
  t : TypeId
  e : TypeId
  z : Value
  by_ : Nat
structure Rt.Ok {α : Type} (R : Rt α) : Prop where
  len : ∀ a, (R.enc a).length = R.k
  pos : 0 < R.k
  und : Tryz.prog.underlying R.t = some (.slice R.e)
  inf : ∃ i : TypeInfo, Tryz.prog.info? R.e = some i ∧ i.zero = some R.z ∧ i.size = R.k ∧ i.bytes = R.by_
  zs : R.z.cells.size = R.k
  by1 : R.by_ ≤ 1000
  no : ∀ a, ∀ v ∈ R.enc a, noU v = true
  one : ∀ a, ∀ v ∈ R.enc a, v.oneCell' = true
  zno : ∀ v ∈ R.z.cells.toList, noU v = true
def Rt.ecs {α : Type} (R : Rt α) (l : List α) : List Value := l.flatMap R.enc
section
variable {α : Type} {R : Rt α}
theorem Rt.Ok.ecs_len (hR : R.Ok) (l : List α) : (R.ecs l).length = l.length * R.k := by
  induction l with
  | nil => simp [Rt.ecs]
  | cons p l ih =>
    show (R.enc p ++ R.ecs l).length = _
    rw [List.length_append, ih, hR.len, List.length_cons, Nat.succ_mul]
    omega
theorem Rt.ecs_push (R : Rt α) (l : List α) (p : α) : R.ecs (l ++ [p]) = R.ecs l ++ R.enc p := by
  unfold Rt.ecs
  rw [List.flatMap_append]
  simp
theorem Rt.Ok.ecs_get (hR : R.Ok) (l : List α) (i j : Nat) (hi : i < l.length) (hj : j < R.k) : (R.ecs l)[i * R.k + j]? = (R.enc l[i])[j]? := by
  induction l generalizing i with
  | nil => simp at hi
  | cons p l ih =>
    show (R.enc p ++ R.ecs l)[i * R.k + j]? = _
    cases i with
    | zero =>
      rw [List.getElem?_append_left (by rw [hR.len]; omega)]
      simp
    | succ i =>
      have e : (i + 1) * R.k + j = R.k + (i * R.k + j) := by rw [Nat.succ_mul]; omega
      rw [e, List.getElem?_append_right (by rw [hR.len]; omega), hR.len, Nat.add_sub_cancel_left, ih i (by simpa using hi)]
      rfl
theorem Rt.Ok.ecs_no (hR : R.Ok) (l : List α) : ∀ v ∈ R.ecs l, noU v = true := by
  intro v hv
  obtain ⟨p, _, hv⟩ := List.mem_flatMap.1 hv
  exact hR.no p v hv
end
def Rl {α : Type} (R : Rt α) (Z : List Nat) (W : World) (A : Option Addr) (l : List α) : Prop := l = [] ∨ ∃ g o, A = some ⟨g, o, none⟩ ∧ g ∉ Z ∧ ∀ i (h : i < l.length) j v, (R.enc l[i])[j]? = some v → W.cell? ⟨g, o + i * R.k + j, none⟩ = some v
section
variable {α : Type} {R : Rt α} {Z Z' : List Nat} {w w' W : World} {A : Option Addr} {l : List α}
theorem Rl.off {S : List Nat} (h : Rl R Z w A l) (hf : Off S w w') (hS : ∀ b ∈ S, b ∈ Z ∨ w.heap.size ≤ b) (hZ : ∀ b ∈ Z', b ∈ Z ∨ w.heap.size ≤ b) (hR : R.Ok) : Rl R Z' w' A l := by
  rcases h with h | ⟨g, o, e, hg, hc⟩
  · exact .inl h
  by_cases h0 : l = []
  · exact .inl h0
  have hlt : g < w.heap.size := by
    have hp := List.length_pos_iff.2 h0
    have hl := hR.len l[0]
    have hpos := hR.pos
    have := hc 0 hp 0 ((R.enc l[0])[0]'(by omega)) (List.getElem?_eq_getElem _)
    exact cell_in this
  refine .inr ⟨g, o, e, fun hm => ?_, fun i hi j v hv => hf.cell (hc i hi j v hv) hlt (fun hm => ?_)⟩
  · rcases hZ g hm with h1 | h1
    · exact hg h1
    · omega
  · rcases hS g hm with h1 | h1
    · exact hg h1
    · omega
theorem Rl.next (h : Rl R Z w A l) (hb : Below w.heap.size w w') (hR : R.Ok) : Rl R Z w' A l := h.off (Off.of_below hb []) (by simp) (fun b hb => .inl hb) hR
theorem Rl.get (h : Rl R Z w A l) {i : Nat} (hi : i < l.length) : ∃ g o, A = some ⟨g, o, none⟩ ∧ g ∉ Z ∧ ∀ j v, (R.enc l[i])[j]? = some v → w.cell? ⟨g, o + i * R.k + j, none⟩ = some v := by
  rcases h with h | ⟨g, o, e, hg, hc⟩
  · subst h; simp at hi
  · exact ⟨g, o, e, hg, hc i hi⟩
end
structure Gx {α : Type} (R : Rt α) (B : Nat) (w : World) (g m : Nat) (l : List α) : Prop where
  ex : ∃ cur, w.heap[g]? = some (.cells cur R.e (0, 0)) ∧ cur.size = m * R.k ∧ cur.toList.take (l.length * R.k) = R.ecs l ∧ ∀ v ∈ cur.toList, noU v = true
  base : B ≤ g
  room : l.length ≤ m
  big : m ≤ maxLen
def Gr {α : Type} (R : Rt α) (B : Nat) (w : World) (v : Value) (l : List α) : Prop := (v = .slice none 0 0 ∧ l = []) ∨ ∃ g m, v = .slice (some ⟨g, 0, none⟩) l.length m ∧ Gx R B w g m l
section
variable {α : Type} {R : Rt α} {B g m : Nat} {w w' : World} {l : List α} {v : Value}
theorem Gx.lt (h : Gx R B w g m l) : g < w.heap.size := by
  obtain ⟨cur, hc, _⟩ := h.ex
  exact (Array.getElem?_eq_some_iff.1 hc).1
theorem Gx.off {T : List Nat} (h : Gx R B w g m l) (hO : Off T w w') (hn : g ∉ T) : Gx R B w' g m l := by
  have hl := h.lt
  obtain ⟨⟨cur, hc, h1⟩, h2, h3, h4⟩ := h
  exact ⟨⟨cur, (hO.block g hl hn).trans hc, h1⟩, h2, h3, h4⟩
theorem Gx.next (h : Gx R B w g m l) (hb : Below w.heap.size w w') : Gx R B w' g m l := h.off (Off.of_below hb []) (by simp)
theorem Gx.sl {A : Option Addr} {xs : List Nat} (h : Gx R B w g m l) (hs : Sl w A xs) (hO : Off [g] w w') : Sl w' A xs := by
  rcases hs with hs | ⟨b, o, e, hb, hc⟩
  · exact .inl hs
  by_cases hx : xs = []
  · exact .inl hx
  have hbg : b ≠ g := by
    rintro rfl
    obtain ⟨cur, hcur, _, _, hn⟩ := h.ex
    have h0 := hc 0 (List.length_pos_iff.2 hx)
    rw [cell_of_row w b (o + 0) cur _ (0, 0) hcur] at h0
    have := hn _ (List.mem_of_getElem? (by rw [Array.getElem?_toList]; exact h0))
    cases this
  exact .inr ⟨b, o, e, Nat.lt_of_lt_of_le hb hO.size, fun j hj => hO.cell (hc j hj) hb (by simpa using hbg)⟩
theorem Gx.rl (hR : R.Ok) (h : Gx R B w g m l) {Z : List Nat} (hZ : g ∉ Z) : Rl R Z w (some ⟨g, 0, none⟩) l := by
  refine .inr ⟨g, 0, rfl, hZ, fun i hi j v hv => ?_⟩
  obtain ⟨cur, hcur, hsz, htk, _⟩ := h.ex
  have hj : j < R.k := by rw [← hR.len l[i]]; exact (List.getElem?_eq_some_iff.1 hv).1
  rw [cell_of_row w g _ cur _ (0, 0) hcur, Nat.zero_add, ← Array.getElem?_toList]
  rw [← hR.ecs_get l i j hi hj, ← htk, List.getElem?_take] at hv
  split at hv
  · exact hv
  · cases hv
def Rt.mz (R : Rt α) (n : Nat) : Obj := .cells (madeCells R.z.cells (n * R.k)) R.e
theorem made_no (hR : R.Ok) (n : Nat) : ∀ v ∈ (madeCells R.z.cells n).toList, noU v = true := by
  intro v hv
  unfold madeCells at hv
  simp only [Array.toList_map, Array.toList_range, List.mem_map] at hv
  obtain ⟨k, hk, rfl⟩ := hv
  have hlt : k % R.z.cells.size < R.z.cells.size := Nat.mod_lt _ (by rw [hR.zs]; exact hR.pos)
  rw [getElem!_pos R.z.cells (k % R.z.cells.size) hlt]
  exact hR.zno _ (Array.mem_toList_iff.2 (Array.getElem_mem hlt))
theorem Rt.Ok.make (hR : R.Ok) (n : Nat) (hn : n ≤ 1000000) (W : World) :
    (Instr.makeSlice R.t (.int .i64 0) (.int .i64 (n : Int))).run Tryz.prog W = .ok (.slice (some ⟨W.heap.size, 0, none⟩) 0 n) (W.alloc (R.mz n)) := by
  obtain ⟨i, hi, hz, h1, h8⟩ := hR.inf
  have h9 := hR.by1
  have hm : (i.bytes : Int) * (n : Int) ≤ 281474976710656 := by
    rw [h8]
    have := Nat.mul_le_mul h9 hn
    have h2 : ((R.by_ * n : Nat) : Int) = (R.by_ : Int) * (n : Int) := Int.natCast_mul _ _
    omega
  have hr := run_make (P := Tryz.prog) W R.t R.e i _ hR.und hi hz .i64 .i64 0 n (by omega) (by omega) hm (by omega)
  simp only [Int.toNat_natCast, h1] at hr
  exact hr
theorem Gx.new (hR : R.Ok) (W : World) (n : Nat) (hn : n ≤ 1000000) (hB : B ≤ W.heap.size) : Gx R B (W.alloc (R.mz n)) W.heap.size n [] :=
  ⟨⟨_, Bk.new _ _ W, size_madeCells _ _, by simp [Rt.ecs], made_no hR _⟩, hB, Nat.zero_le _, by unfold maxLen; omega⟩
theorem Gr.nil (R : Rt α) (B : Nat) (w : World) : Gr R B w (.slice none 0 0) [] := .inl ⟨rfl, rfl⟩
theorem Gr.off {T : List Nat} (h : Gr R B w v l) (hO : Off T w w') (hn : ∀ b, v.ownBlock = some b → b ∉ T) : Gr R B w' v l := by
  rcases h with ⟨rfl, rfl⟩ | ⟨g, m, rfl, hg⟩
  · exact .inl ⟨rfl, rfl⟩
  · exact .inr ⟨g, m, rfl, hg.off hO (hn g rfl)⟩
theorem Gr.next (h : Gr R B w v l) (hb : Below w.heap.size w w') : Gr R B w' v l := h.off (Off.of_below hb []) (by simp)
theorem Gr.base (h : Gr R B w v l) : ∀ b, v.ownBlock = some b → B ≤ b ∧ b < w.heap.size := by
  rcases h with ⟨rfl, rfl⟩ | ⟨g, m, rfl, hg⟩
  · intro b hb; cases hb
  · intro b hb
    cases hb
    exact ⟨hg.base, hg.lt⟩
theorem Gr.rl (hR : R.Ok) (h : Gr R B w v l) {Z : List Nat} (hZ : ∀ b, v.ownBlock = some b → b ∉ Z) : ∃ A c, v = .slice A l.length c ∧ Rl R Z w A l ∧ l.length ≤ c ∧ c ≤ maxLen := by
  rcases h with ⟨rfl, rfl⟩ | ⟨g, m, rfl, hg⟩
  · exact ⟨none, 0, rfl, .inl rfl, Nat.le_refl _, Nat.zero_le _⟩
  · exact ⟨some ⟨g, 0, none⟩, m, rfl, hg.rl hR (hZ g rfl), hg.room, hg.big⟩
theorem Gr.sl {A : Option Addr} {xs : List Nat} (h : Gr R B w v l) (hs : Sl w A xs) (hO : Off v.ownBlock.toList w w') : Sl w' A xs := by
  rcases h with ⟨rfl, rfl⟩ | ⟨g, m, rfl, hg⟩
  · have hO' : Off [] w w' := hO
    exact kp' (hO'.below (Nat.le_refl _) (by simp)) hs
  · exact hg.sl hs hO
theorem Gr.form (h : Gr R B w v l) : ∃ A c, v = .slice A l.length c := by
  rcases h with ⟨rfl, rfl⟩ | ⟨g, m, rfl, hg⟩
  · exact ⟨none, 0, rfl⟩
  · exact ⟨_, _, rfl⟩
theorem Gr.push (hR : R.Ok) (h : Gr R B w v l) (p : α) (hl : l.length ≤ 100000) (hB : B ≤ w.heap.size) {x : Nat} (hX : Bk x (R.enc p).toArray R.e w) :
    ∃ A c W', (∀ ty, (Builtin.append_ #[R.t, R.t] ty #[v, .slice (some ⟨x, 0, none⟩) 1 1]).run Tryz.prog w = .ok (.slice A (l.length + 1) c) W') ∧ Gr R B W' (.slice A (l.length + 1) c) (l ++ [p]) ∧ Off v.ownBlock.toList w W' ∧
      (∀ b, (Value.slice A (l.length + 1) c).ownBlock = some b → v.ownBlock = some b ∨ b = w.heap.size) ∧ ∀ g m, v = .slice (some ⟨g, 0, none⟩) l.length m → l.length < m → A = some ⟨g, 0, none⟩ ∧ c = m := by
  obtain ⟨i, hinf, hz, h1, h8⟩ := hR.inf
  have h9 := hR.by1
  have hpl := hR.len p
  have hpos := hR.pos
  have hno := hR.no p
  have hone := hR.one p
  have hcells : ∀ j u, (R.enc p)[j]? = some u → w.cell? ((⟨x, 0, none⟩ : Addr).add j) = some u := by
    intro j u hu
    rw [Addr.add_lit, Nat.zero_add]
    refine hX.cell ?_
    rw [← Array.getElem?_toList]
    exact hu
  have hsrc : Src Tryz.prog i.size R.t (.slice (some ⟨x, 0, none⟩) 1 1) 1 (R.enc p) w := Src.ofSlice w hR.und ⟨x, 0, none⟩ 1 1 (R.enc p) (by rw [h1, hpl]; omega) hcells hone
  have grown : ∀ (olds : List Value) (cap : Nat), olds = R.ecs l → l.length + 1 ≤ cap → cap ≤ maxLen →
      Gx R B (w.drew.alloc (.cells ((olds ++ R.enc p).toArray ++ Builtin.zeroCells R.z.cells (cap - (l.length + 1))) R.e)) w.heap.size cap (l ++ [p]) := by
    intro olds cap ho hc hm
    subst ho
    have e4 : (R.ecs l ++ R.enc p).length = (l.length + 1) * R.k := by rw [List.length_append, hR.ecs_len, hpl, Nat.succ_mul]
    refine ⟨⟨_, Bk.new _ _ w.drew, ?_, ?_, ?_⟩, hB, by simpa using hc, hm⟩
    · rw [Array.size_append, size_zeroCells, List.size_toArray, e4, hR.zs, ← Nat.add_mul]
      congr 1
      omega
    · rw [Rt.ecs_push, Array.toList_append]
      have e5 : (l ++ [p]).length * R.k = (R.ecs l ++ R.enc p).length := by rw [e4, List.length_append]; rfl
      rw [e5]
      exact List.take_left
    · intro v hv
      rw [Array.toList_append] at hv
      rcases List.mem_append.1 hv with hv | hv
      · rcases List.mem_append.1 hv with hv | hv
        · exact hR.ecs_no l v hv
        · exact hno v hv
      · refine made_no hR ((cap - (l.length + 1)) * R.z.cells.size) v ?_
        exact hv
  have hOa : ∀ (T : List Nat) (o : Obj), Off T w (w.drew.alloc o) := fun T o => ((Off.refl T w).drew).alloc o
  have fits : ∀ n, n ≤ 100001 → n * i.bytes ≤ 140737488355328 := fun n hn => by
    rw [h8]
    have := Nat.mul_le_mul hn h9
    omega
  rcases h with ⟨rfl, rfl⟩ | ⟨g, m, rfl, hg⟩
  · have hr := fun ty => run_append_grow_src (P := Tryz.prog) w R.t R.t ty R.e i _ hR.und hinf hz none 0 0 [] (by exact run_firstCells_none w.drew i.size 0 0 0) (.slice (some ⟨x, 0, none⟩) 1 1) 1 (R.enc p) hsrc (by decide) (by decide) (growslice_fits (by decide) (fits _ (by decide)))
    have hc := grownCap_ge w (0 + 1) 0 R.e
    have hm := grownCap_le_maxLen w (0 + 1) 0 R.e (by unfold maxLen; omega)
    refine ⟨_, _, _, hr, .inr ⟨w.heap.size, grownCap w (0 + 1) 0 R.e, rfl, grown [] _ rfl (by simpa using hc) hm⟩, hOa _ _, fun b hb => ?_, fun g m e => ?_⟩
    · cases hb
      exact .inr rfl
    · cases e
  · by_cases hroom : l.length < m
    · obtain ⟨⟨cur, hcc, hsz, htk, hnn⟩, hBg, hrm, hbig⟩ := hg
      have hfit : l.length * i.size + (R.enc p).length ≤ cur.size := by
        rw [h1, hsz, hpl, ← Nat.succ_mul]
        exact Nat.mul_le_mul_right _ hroom
      have hr := fun ty => run_append_room (P := Tryz.prog) w R.t ty R.e i hR.und hinf g l.length m cur hcc ⟨x, 0, none⟩ 1 1 (R.enc p) (by rw [h1, hpl]; omega) hcells hone (by omega) hfit
      rw [h1] at hr hfit
      refine ⟨_, _, _, hr, .inr ⟨g, m, by simp, ⟨⟨_, setRow_heap w g cur _ _ _ hcc, ?_, ?_, ?_⟩, hBg, by simp; omega, hbig⟩⟩, ⟨rfl, rfl, rfl, by simp, fun k _ hk => setRow_other w g k _ (by simpa [Value.ownBlock] using hk)⟩, fun b hb => .inl hb, fun g' m' e _ => ?_⟩
      · simp only [List.size_toArray, List.length_append, List.length_take, List.length_drop, Array.length_toList]
        omega
      · rw [Rt.ecs_push, htk]
        have e : (l ++ [p]).length * R.k = (R.ecs l ++ R.enc p).length := by rw [List.length_append, List.length_append, hR.ecs_len, hpl, List.length_singleton, Nat.add_mul, Nat.one_mul]
        rw [e]
        exact List.take_left
      · intro v hv
        simp only [List.mem_append] at hv
        rcases hv with (hv | hv) | hv
        · exact hnn v (List.mem_of_mem_take hv)
        · exact hno v hv
        · exact hnn v (List.mem_of_mem_drop hv)
      · cases e
        exact ⟨rfl, rfl⟩
    · have hml : m = l.length := by have := hg.room; omega
      subst hml
      have hold : (Builtin.firstCells i.size l.length (.slice (some ⟨g, 0, none⟩) l.length l.length)).run Tryz.prog w.drew = .ok (R.ecs l).toArray w.drew := by
        refine run_firstCells_some w.drew i.size l.length ⟨g, 0, none⟩ l.length l.length (R.ecs l) (by rw [h1, hR.ecs_len]) ?_
        intro j u hu
        obtain ⟨⟨cur, hcc, hsz, htk, hnn⟩, _⟩ := hg
        have hb : Bk g cur R.e w := hcc
        rw [Addr.add_lit, Nat.zero_add]
        have h2 : w.cell? ⟨g, j, none⟩ = some u := by
          refine hb.cell ?_
          have hj : j < l.length * R.k := by
            rw [← hR.ecs_len]
            exact (List.getElem?_eq_some_iff.1 hu).1
          rw [← htk, List.getElem?_take_of_lt hj, Array.getElem?_toList] at hu
          exact hu
        simpa using h2
      have hr := fun ty => run_append_grow_src (P := Tryz.prog) w R.t R.t ty R.e i _ hR.und hinf hz (some ⟨g, 0, none⟩) l.length l.length (R.ecs l) hold (.slice (some ⟨x, 0, none⟩) 1 1) 1 (R.enc p) hsrc (by omega) (by omega) (growslice_fits (by omega) (fits _ (by omega)))
      have hc := grownCap_ge w (l.length + 1) l.length R.e
      have hm := grownCap_le_maxLen w (l.length + 1) l.length R.e (by unfold maxLen; omega)
      refine ⟨_, _, _, hr, .inr ⟨w.heap.size, grownCap w (l.length + 1) l.length R.e, by simp, grown (R.ecs l) _ rfl hc hm⟩, hOa _ _, fun b hb => ?_, fun g' m' e hlt => ?_⟩
      · cases hb
        exact .inr rfl
      · cases e
        omega
end
section
variable {α : Type} {R : Rt α} {B g m : Nat} {w : World} {l : List α}
theorem Gx.push (hR : R.Ok) (h : Gx R B w g m l) (p : α) (hl : l.length ≤ 100000) (hB : B ≤ w.heap.size) (hroom : l.length < m) {x : Nat} (hX : Bk x (R.enc p).toArray R.e w) :
    ∃ W', (∀ ty, (Builtin.append_ #[R.t, R.t] ty #[.slice (some ⟨g, 0, none⟩) l.length m, .slice (some ⟨x, 0, none⟩) 1 1]).run Tryz.prog w = .ok (.slice (some ⟨g, 0, none⟩) (l.length + 1) m) W') ∧ Gx R B W' g m (l ++ [p]) ∧ Off [g] w W' := by
  have hG : Gr R B w (.slice (some ⟨g, 0, none⟩) l.length m) l := .inr ⟨g, m, rfl, h⟩
  obtain ⟨A, c, W', h1, h2, h3, _, h5⟩ := hG.push hR p hl hB hX
  obtain ⟨rfl, rfl⟩ := h5 g m rfl hroom
  refine ⟨W', h1, ?_, h3⟩
  rcases h2 with ⟨e, _⟩ | ⟨g', m', e, h⟩
  · cases e
  · injection e with e1 e2 e3
    injection e1 with e1
    injection e1 with e1
    subst e1 e3
    exact h
end
structure Vl where
  so : Int
  bo : Bool
  p : Pt
  el : Int
def Vl.cs (v : Vl) : List Value := [.int .i64 v.so, .bool v.bo, .bool v.p.s, .slice v.p.A v.p.xs.length v.p.a, .slice v.p.B v.p.ys.length v.p.b, .int .i64 v.el]
def Vl.v (v : Vl) : Value := .agg #[.int .i64 v.so, .bool v.bo, .bool v.p.s, .slice v.p.A v.p.xs.length v.p.a, .slice v.p.B v.p.ys.length v.p.b, .int .i64 v.el]
def Pt.con (p : Pt) : Bool × List Nat × List Nat := (p.s, p.xs, p.ys)
def Vl.cn (v : Vl) : Int × Bool × (Bool × List Nat × List Nat) × Int := (v.so, v.bo, v.p.con, v.el)
structure Rr where
  A : Option Addr
  l : List Vl
  c : Nat
  v : Vl
def Rr.cs (r : Rr) : List Value := [.slice r.A r.l.length r.c, .int .i64 r.v.so, .bool r.v.bo, .bool r.v.p.s, .slice r.v.p.A r.v.p.xs.length r.v.p.a, .slice r.v.p.B r.v.p.ys.length r.v.p.b, .int .i64 r.v.el]
structure Tr where
  nm : ByteArray
  A : Option Addr
  l : List Rr
  c : Nat
  e : Vl
def Tr.cs (t : Tr) : List Value := [.string t.nm, .slice t.A t.l.length t.c, .int .i64 t.e.so, .bool t.e.bo, .bool t.e.p.s, .slice t.e.p.A t.e.p.xs.length t.e.p.a, .slice t.e.p.B t.e.p.ys.length t.e.p.b, .int .i64 t.e.el]
def Tr.v (t : Tr) : Value := .agg #[.string t.nm, .slice t.A t.l.length t.c, .int .i64 t.e.so, .bool t.e.bo, .bool t.e.p.s, .slice t.e.p.A t.e.p.xs.length t.e.p.a, .slice t.e.p.B t.e.p.ys.length t.e.p.b, .int .i64 t.e.el]
def zV : Array Value := #[.int .i64 0, .bool false, .bool false, .slice none 0 0, .slice none 0 0, .int .i64 0]
def zR : Array Value := #[.slice none 0 0, .int .i64 0, .bool false, .bool false, .slice none 0 0, .slice none 0 0, .int .i64 0]
def zT : Array Value := #[.string ⟨#[]⟩, .slice none 0 0, .int .i64 0, .bool false, .bool false, .slice none 0 0, .slice none 0 0, .int .i64 0]
def rV : Rt Vl := ⟨Vl.cs, 6, 25, 30, .agg zV, 80⟩
def rR : Rt Rr := ⟨Rr.cs, 7, 35, 76, .agg zR, 104⟩
def rT : Rt Tr := ⟨Tr.cs, 8, 22, 37, .agg zT, 120⟩
theorem rV_ok : rV.Ok where
  len := fun _ => rfl
  pos := by decide
  und := Tryz.underlying25
  inf := info_parts (P := Tryz.prog) (e := 30) (z := .agg zV) (size := 6) (bytes := 80) (by kernel_rfl)
  zs := rfl
  by1 := by decide
  no := by intro a v hv; simp [rV, Vl.cs] at hv; rcases hv with rfl | rfl | rfl | rfl | rfl | rfl <;> rfl
  one := by intro a v hv; simp [rV, Vl.cs] at hv; rcases hv with rfl | rfl | rfl | rfl | rfl | rfl <;> rfl
  zno := by intro v hv; simp [rV, zV, Value.cells] at hv; rcases hv with rfl | rfl | rfl | rfl <;> rfl
theorem rR_ok : rR.Ok where
  len := fun _ => rfl
  pos := by decide
  und := Tryz.underlying35
  inf := info_parts (P := Tryz.prog) (e := 76) (z := .agg zR) (size := 7) (bytes := 104) (by kernel_rfl)
  zs := rfl
  by1 := by decide
  no := by intro a v hv; simp [rR, Rr.cs] at hv; rcases hv with rfl | rfl | rfl | rfl | rfl | rfl | rfl <;> rfl
  one := by intro a v hv; simp [rR, Rr.cs] at hv; rcases hv with rfl | rfl | rfl | rfl | rfl | rfl | rfl <;> rfl
  zno := by intro v hv; simp [rR, zR, Value.cells] at hv; rcases hv with rfl | rfl | rfl | rfl | rfl <;> rfl
theorem rT_ok : rT.Ok where
  len := fun _ => rfl
  pos := by decide
  und := Tryz.underlying22
  inf := info_parts (P := Tryz.prog) (e := 37) (z := .agg zT) (size := 8) (bytes := 120) (by kernel_rfl)
  zs := rfl
  by1 := by decide
  no := by intro a v hv; simp [rT, Tr.cs] at hv; rcases hv with rfl | rfl | rfl | rfl | rfl | rfl | rfl | rfl <;> rfl
  one := by intro a v hv; simp [rT, Tr.cs] at hv; rcases hv with rfl | rfl | rfl | rfl | rfl | rfl | rfl | rfl <;> rfl
  zno := by intro v hv; simp [rT, zT, Value.cells] at hv; rcases hv with rfl | rfl | rfl | rfl | rfl | rfl <;> rfl
def Vl.At (v : Vl) (W : World) : Prop := v.p.At W
def Vs (Z : List Nat) (W : World) (A : Option Addr) (l : List Vl) : Prop := Rl rV Z W A l ∧ ∀ v ∈ l, v.At W
def Rr.At (Z : List Nat) (W : World) (r : Rr) : Prop := Vs Z W r.A r.l ∧ r.v.At W
def Rws (Z : List Nat) (W : World) (A : Option Addr) (l : List Rr) : Prop := Rl rR Z W A l ∧ ∀ r ∈ l, r.At Z W
def Tr.At (Z : List Nat) (W : World) (t : Tr) : Prop := Rws Z W t.A t.l ∧ t.e.At W
def Ts (Z : List Nat) (W : World) (A : Option Addr) (l : List Tr) : Prop := Rl rT Z W A l ∧ ∀ t ∈ l, t.At Z W
def Vl.Few (v : Vl) : Prop := v.p.Few ∧ v.p.xs.length ≤ 1000 ∧ v.p.ys.length ≤ 1000
def Rr.Few (r : Rr) : Prop := (∀ v ∈ r.l, v.Few) ∧ r.v.Few ∧ r.l.length ≤ 100000
def Tr.Few (t : Tr) : Prop := (∀ r ∈ t.l, r.Few) ∧ t.e.Few ∧ t.l.length ≤ 100000
def Rr.cn (r : Rr) := (r.l.map Vl.cn, r.v.cn)
section
variable {Z Z' S : List Nat} {w w' : World}
def Lks (w w' : World) : Prop := ∀ A xs, Sl w A xs → Sl w' A xs
theorem Lks.refl (w : World) : Lks w w := fun _ _ h => h
theorem Lks.of_below (h : Below w.heap.size w w') : Lks w w' := fun _ _ hs => kp' h hs
theorem Vl.At.lk {v : Vl} (h : v.At w) (hL : Lks w w') : v.At w' := ⟨hL _ _ h.1, hL _ _ h.2⟩
theorem Vl.At.next {v : Vl} (h : v.At w) (hb : Below w.heap.size w w') : v.At w' := h.lk (Lks.of_below hb)
theorem Vs.off {A : Option Addr} {l : List Vl} (h : Vs Z w A l) (hf : Off S w w') (hL : Lks w w') (hS : ∀ b ∈ S, b ∈ Z ∨ w.heap.size ≤ b) (hZ : ∀ b ∈ Z', b ∈ Z ∨ w.heap.size ≤ b) : Vs Z' w' A l :=
  ⟨h.1.off hf hS hZ rV_ok, fun v hv => (h.2 v hv).lk hL⟩
theorem Rr.At.off {r : Rr} (h : r.At Z w) (hf : Off S w w') (hL : Lks w w') (hS : ∀ b ∈ S, b ∈ Z ∨ w.heap.size ≤ b) (hZ : ∀ b ∈ Z', b ∈ Z ∨ w.heap.size ≤ b) : r.At Z' w' :=
  ⟨h.1.off hf hL hS hZ, h.2.lk hL⟩
theorem Rws.off {A : Option Addr} {l : List Rr} (h : Rws Z w A l) (hf : Off S w w') (hL : Lks w w') (hS : ∀ b ∈ S, b ∈ Z ∨ w.heap.size ≤ b) (hZ : ∀ b ∈ Z', b ∈ Z ∨ w.heap.size ≤ b) : Rws Z' w' A l :=
  ⟨h.1.off hf hS hZ rR_ok, fun r hr => (h.2 r hr).off hf hL hS hZ⟩
theorem Tr.At.off {t : Tr} (h : t.At Z w) (hf : Off S w w') (hL : Lks w w') (hS : ∀ b ∈ S, b ∈ Z ∨ w.heap.size ≤ b) (hZ : ∀ b ∈ Z', b ∈ Z ∨ w.heap.size ≤ b) : t.At Z' w' :=
  ⟨h.1.off hf hL hS hZ, h.2.lk hL⟩
theorem Ts.off {A : Option Addr} {l : List Tr} (h : Ts Z w A l) (hf : Off S w w') (hL : Lks w w') (hS : ∀ b ∈ S, b ∈ Z ∨ w.heap.size ≤ b) (hZ : ∀ b ∈ Z', b ∈ Z ∨ w.heap.size ≤ b) : Ts Z' w' A l :=
  ⟨h.1.off hf hS hZ rT_ok, fun t ht => (h.2 t ht).off hf hL hS hZ⟩
theorem Vs.next {A : Option Addr} {l : List Vl} (h : Vs Z w A l) (hb : Below w.heap.size w w') : Vs Z w' A l := h.off (Off.of_below hb []) (Lks.of_below hb) (by simp) (fun b hb => .inl hb)
theorem Rr.At.next {r : Rr} (h : r.At Z w) (hb : Below w.heap.size w w') : r.At Z w' := h.off (Off.of_below hb []) (Lks.of_below hb) (by simp) (fun b hb => .inl hb)
theorem Rws.next {A : Option Addr} {l : List Rr} (h : Rws Z w A l) (hb : Below w.heap.size w w') : Rws Z w' A l := h.off (Off.of_below hb []) (Lks.of_below hb) (by simp) (fun b hb => .inl hb)
theorem Tr.At.next {t : Tr} (h : t.At Z w) (hb : Below w.heap.size w w') : t.At Z w' := h.off (Off.of_below hb []) (Lks.of_below hb) (by simp) (fun b hb => .inl hb)
theorem Ts.next {A : Option Addr} {l : List Tr} (h : Ts Z w A l) (hb : Below w.heap.size w w') : Ts Z w' A l := h.off (Off.of_below hb []) (Lks.of_below hb) (by simp) (fun b hb => .inl hb)
theorem Gr.lk {α : Type} {R : Rt α} {B : Nat} {v : Value} {l : List α} (h : Gr R B w v l) (hO : Off v.ownBlock.toList w w') : Lks w w' := fun _ _ hs => h.sl hs hO
theorem Lks.of_map {m : Nat} {es : Array MapEntry} {cl : Nat} (hm : w.heap[m]? = some (.map es cl)) (hO : Off [m] w w') : Lks w w' := by
  intro A xs hs
  rcases hs with hs | ⟨b, o, e, hb, hc⟩
  · exact .inl hs
  by_cases hx : xs = []
  · exact .inl hx
  have hbg : b ≠ m := by
    rintro rfl
    have h0 := hc 0 (List.length_pos_iff.2 hx)
    unfold World.cell? at h0
    rw [hm] at h0
    cases h0
  exact .inr ⟨b, o, e, Nat.lt_of_lt_of_le hb hO.size, fun j hj => hO.cell (hc j hj) hb (by simpa using hbg)⟩
end
theorem Rl.at6 {Z : List Nat} {w : World} {A : Option Addr} {l : List Vl} (h : Rl rV Z w A l) {i : Nat} (hi : i < l.length) : ∃ g o, A = some ⟨g, o, none⟩ ∧ g ∉ Z ∧ w.cell? ⟨g, o + i * 6, none⟩ = some (.int .i64 l[i].so) ∧ w.cell? ⟨g, o + i * 6 + 1, none⟩ = some (.bool l[i].bo) ∧ w.cell? ⟨g, o + i * 6 + 2, none⟩ = some (.bool l[i].p.s) ∧
    w.cell? ⟨g, o + i * 6 + 3, none⟩ = some (.slice l[i].p.A l[i].p.xs.length l[i].p.a) ∧ w.cell? ⟨g, o + i * 6 + 4, none⟩ = some (.slice l[i].p.B l[i].p.ys.length l[i].p.b) ∧ w.cell? ⟨g, o + i * 6 + 5, none⟩ = some (.int .i64 l[i].el) := by
  obtain ⟨g, o, e, hZ, hc⟩ := h.get hi
  exact ⟨g, o, e, hZ, hc 0 _ rfl, hc 1 _ rfl, hc 2 _ rfl, hc 3 _ rfl, hc 4 _ rfl, hc 5 _ rfl⟩
theorem Rl.at7 {Z : List Nat} {w : World} {A : Option Addr} {l : List Rr} (h : Rl rR Z w A l) {i : Nat} (hi : i < l.length) : ∃ g o, A = some ⟨g, o, none⟩ ∧ g ∉ Z ∧ w.cell? ⟨g, o + i * 7, none⟩ = some (.slice l[i].A l[i].l.length l[i].c) ∧ w.cell? ⟨g, o + i * 7 + 1, none⟩ = some (.int .i64 l[i].v.so) ∧ w.cell? ⟨g, o + i * 7 + 2, none⟩ = some (.bool l[i].v.bo) ∧ w.cell? ⟨g, o + i * 7 + 3, none⟩ = some (.bool l[i].v.p.s) ∧
    w.cell? ⟨g, o + i * 7 + 4, none⟩ = some (.slice l[i].v.p.A l[i].v.p.xs.length l[i].v.p.a) ∧ w.cell? ⟨g, o + i * 7 + 5, none⟩ = some (.slice l[i].v.p.B l[i].v.p.ys.length l[i].v.p.b) ∧ w.cell? ⟨g, o + i * 7 + 6, none⟩ = some (.int .i64 l[i].v.el) := by
  obtain ⟨g, o, e, hZ, hc⟩ := h.get hi
  exact ⟨g, o, e, hZ, hc 0 _ rfl, hc 1 _ rfl, hc 2 _ rfl, hc 3 _ rfl, hc 4 _ rfl, hc 5 _ rfl, hc 6 _ rfl⟩
theorem Rl.at8 {Z : List Nat} {w : World} {A : Option Addr} {l : List Tr} (h : Rl rT Z w A l) {i : Nat} (hi : i < l.length) : ∃ g o, A = some ⟨g, o, none⟩ ∧ g ∉ Z ∧ w.cell? ⟨g, o + i * 8, none⟩ = some (.string l[i].nm) ∧ w.cell? ⟨g, o + i * 8 + 1, none⟩ = some (.slice l[i].A l[i].l.length l[i].c) ∧ w.cell? ⟨g, o + i * 8 + 2, none⟩ = some (.int .i64 l[i].e.so) ∧ w.cell? ⟨g, o + i * 8 + 3, none⟩ = some (.bool l[i].e.bo) ∧ w.cell? ⟨g, o + i * 8 + 4, none⟩ = some (.bool l[i].e.p.s) ∧
    w.cell? ⟨g, o + i * 8 + 5, none⟩ = some (.slice l[i].e.p.A l[i].e.p.xs.length l[i].e.p.a) ∧ w.cell? ⟨g, o + i * 8 + 6, none⟩ = some (.slice l[i].e.p.B l[i].e.p.ys.length l[i].e.p.b) ∧ w.cell? ⟨g, o + i * 8 + 7, none⟩ = some (.int .i64 l[i].e.el) := by
  obtain ⟨g, o, e, hZ, hc⟩ := h.get hi
  exact ⟨g, o, e, hZ, hc 0 _ rfl, hc 1 _ rfl, hc 2 _ rfl, hc 3 _ rfl, hc 4 _ rfl, hc 5 _ rfl, hc 6 _ rfl, hc 7 _ rfl⟩
end
section
open Go.ChangeShapes Go.RowKit
def C6 (g : Nat) (u0 u1 u2 u3 u4 u5 : Value) (w : World) : Prop := w.cell? ⟨g, 0, none⟩ = some u0 ∧ w.cell? ⟨g, 1, none⟩ = some u1 ∧ w.cell? ⟨g, 2, none⟩ = some u2 ∧ w.cell? ⟨g, 3, none⟩ = some u3 ∧ w.cell? ⟨g, 4, none⟩ = some u4 ∧ w.cell? ⟨g, 5, none⟩ = some u5
theorem C6.of {g : Nat} {u0 u1 u2 u3 u4 u5 : Value} {t : TypeId} {w : World} (h : Bk g #[u0, u1, u2, u3, u4, u5] t w) : C6 g u0 u1 u2 u3 u4 u5 w := ⟨h.cell rfl, h.cell rfl, h.cell rfl, h.cell rfl, h.cell rfl, h.cell rfl⟩
theorem C6.next {g : Nat} {u0 u1 u2 u3 u4 u5 : Value} {w W : World} (h : C6 g u0 u1 u2 u3 u4 u5 w) (hb : Below w.heap.size w W) : C6 g u0 u1 u2 u3 u4 u5 W :=
  ⟨cell_next hb h.1, cell_next hb h.2.1, cell_next hb h.2.2.1, cell_next hb h.2.2.2.1, cell_next hb h.2.2.2.2.1, cell_next hb h.2.2.2.2.2⟩
theorem con_iff (p r : Pt) : ((p.s == r.s) && (decide (p.xs = r.xs) && decide (p.ys = r.ys))) = decide (p.con = r.con) := by
  rw [Bool.eq_iff_iff]
  simp [Pt.con, Prod.ext_iff]
theorem msameRat_any (p r : Pt) (w : World) (hp : p.At w) (hr : r.At w) (fp : p.Few) (fr : r.Few) (b : Bool) (hb : decide (p.con = r.con) = b) :
    Calls Tryz.prog 34 #[rv p, rv r] w fun e w' => e = .returned (.bool b) ∧ Below w.heap.size w w' := by
  obtain ⟨b1, h1⟩ : ∃ b, (p.s == r.s) = b := ⟨_, rfl⟩
  obtain ⟨b2, h2⟩ : ∃ b, decide (p.xs = r.xs) = b := ⟨_, rfl⟩
  obtain ⟨b3, h3⟩ : ∃ b, decide (p.ys = r.ys) = b := ⟨_, rfl⟩
  rw [← con_iff, h1, h2, h3] at hb
  subst hb
  have hX := hide (fun W (b : Below w.heap.size w W) => equal_w p.A r.A p.a r.a p.xs r.xs W (hp.next b).1 (hr.next b).1 fp.mx fr.mx b2 h2)
  have hY := hide (fun W (b : Below w.heap.size w W) => equal_w p.B r.B p.b r.b p.ys r.ys W (hp.next b).2 (hr.next b).2 fp.my fr.my b3 h3)
  clear hp hr fp fr h2 h3
  unfold rv
  generalize p.xs.length = i1 at *
  generalize p.ys.length = i2 at *
  generalize r.xs.length = j1 at *
  generalize r.ys.length = j2 at *
  have hb : Below w.heap.size w ((w.alloc (.cells #[.bool p.s, .slice p.A i1 p.a, .slice p.B i2 p.b] 28)).alloc (.cells #[.bool r.s, .slice r.A j1 r.a, .slice r.B j2 r.b] 28)) := bl_al (bl_al (.refl _ _) _) _
  have hP : C3 w.heap.size (.bool p.s) (.slice p.A i1 p.a) (.slice p.B i2 p.b) ((w.alloc (.cells #[.bool p.s, .slice p.A i1 p.a, .slice p.B i2 p.b] 28)).alloc (.cells #[.bool r.s, .slice r.A j1 r.a, .slice r.B j2 r.b] 28)) := C3.of ((Bk.new _ _ w).al _)
  have hR : C3 (w.heap.size + 1) (.bool r.s) (.slice r.A j1 r.a) (.slice r.B j2 r.b) ((w.alloc (.cells #[.bool p.s, .slice p.A i1 p.a, .slice p.B i2 p.b] 28)).alloc (.cells #[.bool r.s, .slice r.A j1 r.a, .slice r.B j2 r.b] 28)) := C3.of (Bk.new1 _ _ w _)
  obtain ⟨x0, x1, x2⟩ := hP
  obtain ⟨y0, y1, y2⟩ := hR
  have hPn := hide (fun W b => C3.next (W := W) ⟨x0, x1, x2⟩ b)
  have hRn := hide (fun W b => C3.next (W := W) ⟨y0, y1, y2⟩ b)
  replace hb := hide hb
  have q1 : ∀ W, (binOp .eql 4 (.bool p.s) (.bool r.s)).run Tryz.prog W = .ok (.bool b1) W := fun W => by rw [eqb, h1]
  clear h1
  cases b1 with
  | false =>
    go_enter Tryz.func34, Tryz.ntmps34
    go_wp2_with fail
    go_ret
    exact ⟨rfl, hb.out⟩
  | true =>
    cases b2 with
    | false =>
      go_enter Tryz.func34, Tryz.ntmps34
      go_wp2_with (go_at_call 62; (with_reducible refine (hX.out _ hb.out).mono ?_); rintro e w1 ⟨rfl, hb1⟩; replace hb1 := hide hb1)
      go_ret
      exact ⟨rfl, bl_trans hb.out hb1.out⟩
    | true =>
      go_enter Tryz.func34, Tryz.ntmps34
      go_wp2_with (first
        | (go_at_call 62; (with_reducible refine (hX.out _ hb.out).mono ?_); rintro e w1 ⟨rfl, hb1⟩; clear x0 x1 x2 y0 y1 y2; obtain ⟨x0, x1, x2⟩ := hPn.out _ hb1; obtain ⟨y0, y1, y2⟩ := hRn.out _ hb1; replace hb1 := hide hb1; have hbw := hide (bl_trans hb.out hb1.out); clear hX)
        | (go_at_call 62; (with_reducible refine (hY.out _ hbw.out).mono ?_); rintro e w2 ⟨rfl, hb2⟩; replace hb2 := hide hb2))
      go_ret
      exact ⟨rfl, bl_trans hbw.out hb2.out⟩
def vsame (a b : Vl) : Bool := decide (a.so = b.so) && (if a.so = 0 then a.bo == b.bo else if a.so = 1 then decide (a.p.con = b.p.con) else decide (a.el = b.el))
theorem rsame_any {p r : Pt} (hp : p.Few) (hr : r.Few) (w : World) (aP : p.At w) (aR : r.At w) (b : Bool) (hb : decide (p.con = r.con) = b) : Calls Tryz.prog 35 #[rv p, rv r] w fun e w' => e = .returned (.bool b) ∧ Below w.heap.size w w' :=
  Same_any p.s r.s p.A p.B r.A r.B p.a p.b r.a r.b _ _ _ _ p.xs p.ys r.xs r.ys w aP.1 aP.2 aR.1 aR.2 rfl rfl rfl rfl hp.mx hp.my hr.mx hr.my b (by
    rw [← hb]
    exact decide_eq_decide.2 (by simp [Pt.con, Prod.ext_iff]))
theorem msameRat_r {p r : Pt} (hp : p.Few) (hr : r.Few) (w : World) (aP : p.At w) (aR : r.At w) (b : Bool) (hb : decide (p.con = r.con) = b) : Calls Tryz.prog 34 #[rv p, rv r] w fun e w' => e = .returned (.bool b) ∧ Below w.heap.size w w' := msameRat_any p r w aP aR hp hr b hb
theorem same_v {a b : Vl} (fa : a.Few) (fb : b.Few) (w : World) (hA : a.At w) (hB : b.At w) (r : Bool) (hr : vsame a b = r) :
    Calls Tryz.prog 10 #[a.v, b.v] w fun e w' => e = .returned (.bool r) ∧ Below w.heap.size w w' := by
  obtain ⟨b0, h0⟩ : ∃ c, decide (a.so = b.so) = c := ⟨_, rfl⟩
  obtain ⟨b1, h1⟩ : ∃ c, decide (a.so = 0) = c := ⟨_, rfl⟩
  obtain ⟨b2, h2⟩ : ∃ c, decide (a.so = 1) = c := ⟨_, rfl⟩
  obtain ⟨b3, h3⟩ : ∃ c, (a.bo == b.bo) = c := ⟨_, rfl⟩
  obtain ⟨b4, h4⟩ : ∃ c, decide (a.p.con = b.p.con) = c := ⟨_, rfl⟩
  obtain ⟨b5, h5⟩ : ∃ c, decide (a.el = b.el) = c := ⟨_, rfl⟩
  have hv : vsame a b = (b0 && (if b1 = true then b3 else if b2 = true then b4 else b5)) := by
    unfold vsame
    rw [h0, h3, h4, h5, ← h1, ← h2]
    simp only [decide_eq_true_eq]
  rw [hv] at hr
  subst hr
  clear hv
  have hS := hide (fun W (k : Below w.heap.size w W) => msameRat_r fa.1 fb.1 W (hA.next k) (hB.next k) b4 h4)
  have q9 : (a.so != b.so) = !b0 := by rw [← h0]; rfl
  have q8 : (a.so == b.so) = b0 := by rw [← h0]; rfl
  have q7 : b0 = false → ¬ (a.so = b.so) := fun h e => by rw [← h0, decide_eq_true e] at h; cases h
  have q1 := (show binOp .eql 3 (.int .i64 a.so) (.int .i64 0) = pure (.bool b1) by subst h1; rfl)
  have q2 := (show binOp .eql 3 (.int .i64 a.so) (.int .i64 1) = pure (.bool b2) by subst h2; rfl)
  have q3 : ∀ W, (binOp .eql 4 (.bool a.bo) (.bool b.bo)).run Tryz.prog W = .ok (.bool b3) W := fun W => by rw [eqb, h3]
  have q5 := (show binOp .eql 3 (.int .i64 a.el) (.int .i64 b.el) = pure (.bool b5) by subst h5; rfl)
  clear hA hB fa fb h0 h1 h2 h3 h4 h5
  unfold Vl.v
  unfold rv at hS
  generalize a.p.xs.length = i1 at *
  generalize a.p.ys.length = i2 at *
  generalize b.p.xs.length = j1 at *
  generalize b.p.ys.length = j2 at *
  have hb : Below w.heap.size w ((w.alloc (.cells #[.int .i64 a.so, .bool a.bo, .bool a.p.s, .slice a.p.A i1 a.p.a, .slice a.p.B i2 a.p.b, .int .i64 a.el] 30)).alloc (.cells #[.int .i64 b.so, .bool b.bo, .bool b.p.s, .slice b.p.A j1 b.p.a, .slice b.p.B j2 b.p.b, .int .i64 b.el] 30)) := bl_al (bl_al (.refl _ _) _) _
  obtain ⟨x0, x1, x2, x3, x4, x5⟩ : C6 w.heap.size (.int .i64 a.so) (.bool a.bo) (.bool a.p.s) (.slice a.p.A i1 a.p.a) (.slice a.p.B i2 a.p.b) (.int .i64 a.el) ((w.alloc (.cells #[.int .i64 a.so, .bool a.bo, .bool a.p.s, .slice a.p.A i1 a.p.a, .slice a.p.B i2 a.p.b, .int .i64 a.el] 30)).alloc (.cells #[.int .i64 b.so, .bool b.bo, .bool b.p.s, .slice b.p.A j1 b.p.a, .slice b.p.B j2 b.p.b, .int .i64 b.el] 30)) := C6.of ((Bk.new _ _ w).al _)
  obtain ⟨y0, y1, y2, y3, y4, y5⟩ : C6 (w.heap.size + 1) (.int .i64 b.so) (.bool b.bo) (.bool b.p.s) (.slice b.p.A j1 b.p.a) (.slice b.p.B j2 b.p.b) (.int .i64 b.el) ((w.alloc (.cells #[.int .i64 a.so, .bool a.bo, .bool a.p.s, .slice a.p.A i1 a.p.a, .slice a.p.B i2 a.p.b, .int .i64 a.el] 30)).alloc (.cells #[.int .i64 b.so, .bool b.bo, .bool b.p.s, .slice b.p.A j1 b.p.a, .slice b.p.B j2 b.p.b, .int .i64 b.el] 30)) := C6.of (Bk.new1 _ _ w _)
  replace hb := hide hb
  cases b0 with
  | false =>
    replace q9 : (a.so != b.so) = true := q9
    replace q7 : ¬ (a.so = b.so) := q7 rfl
    go_enter Tryz.func10, Tryz.ntmps10
    go_wp2_with fail
    all_goals
      go_ret
      exact ⟨rfl, hb.out⟩
  | true =>
    replace q9 : (a.so != b.so) = false := q9
    clear q7
    cases b1 with
    | true =>
      go_enter Tryz.func10, Tryz.ntmps10
      go_wp2_with fail
      go_ret
      exact ⟨rfl, hb.out⟩
    | false =>
      cases b2 with
      | true =>
        go_enter Tryz.func10, Tryz.ntmps10
        go_wp2_with (go_at_call 34; (with_reducible refine (hS.out _ hb.out).mono ?_); rintro e w1 ⟨rfl, hb1⟩; replace hb1 := hide hb1)
        go_ret
        exact ⟨rfl, bl_trans hb.out hb1.out⟩
      | false =>
        go_enter Tryz.func10, Tryz.ntmps10
        go_wp2_with fail
        go_ret
        exact ⟨rfl, hb.out⟩
theorem lsame_v {a b : Vl} (fa : a.Few) (fb : b.Few) (w : World) (hA : a.At w) (hB : b.At w) (r : Bool) (hr : decide (a.cn = b.cn) = r) :
    Calls Tryz.prog 14 #[a.v, b.v] w fun e w' => e = .returned (.bool r) ∧ Below w.heap.size w w' := by
  obtain ⟨b0, h0⟩ : ∃ c, decide (a.so = b.so) = c := ⟨_, rfl⟩
  obtain ⟨b3, h3⟩ : ∃ c, (a.bo == b.bo) = c := ⟨_, rfl⟩
  obtain ⟨b4, h4⟩ : ∃ c, decide (a.p.con = b.p.con) = c := ⟨_, rfl⟩
  obtain ⟨b5, h5⟩ : ∃ c, decide (a.el = b.el) = c := ⟨_, rfl⟩
  have hv : decide (a.cn = b.cn) = (b0 && (b3 && (b5 && b4))) := by
    have key : a.cn = b.cn ↔ a.so = b.so ∧ a.bo = b.bo ∧ a.el = b.el ∧ a.p.con = b.p.con := ⟨fun e => by
      unfold Vl.cn at e
      injection e with e1 e
      injection e with e2 e
      injection e with e3 e4
      exact ⟨e1, e2, e4, e3⟩, fun ⟨x, y, u, z⟩ => by unfold Vl.cn; rw [x, y, u, z]⟩
    rw [← h0, ← h3, ← h4, ← h5, Bool.eq_iff_iff]
    simp only [Bool.and_eq_true, decide_eq_true_eq, beq_iff_eq]
    exact key
  rw [hv] at hr
  subst hr
  clear hv
  have hS := hide (fun W (k : Below w.heap.size w W) => rsame_any fa.1 fb.1 W (hA.next k) (hB.next k) b4 h4)
  have q0 := (show binOp .eql 3 (.int .i64 a.so) (.int .i64 b.so) = pure (.bool b0) by subst h0; rfl)
  have q3 : ∀ W, (binOp .eql 4 (.bool a.bo) (.bool b.bo)).run Tryz.prog W = .ok (.bool b3) W := fun W => by rw [eqb, h3]
  have q5 := (show binOp .eql 3 (.int .i64 a.el) (.int .i64 b.el) = pure (.bool b5) by subst h5; rfl)
  clear hA hB fa fb h0 h3 h4 h5
  unfold Vl.v
  unfold rv at hS
  generalize a.p.xs.length = i1 at *
  generalize a.p.ys.length = i2 at *
  generalize b.p.xs.length = j1 at *
  generalize b.p.ys.length = j2 at *
  have hb : Below w.heap.size w ((w.alloc (.cells #[.int .i64 a.so, .bool a.bo, .bool a.p.s, .slice a.p.A i1 a.p.a, .slice a.p.B i2 a.p.b, .int .i64 a.el] 30)).alloc (.cells #[.int .i64 b.so, .bool b.bo, .bool b.p.s, .slice b.p.A j1 b.p.a, .slice b.p.B j2 b.p.b, .int .i64 b.el] 30)) := bl_al (bl_al (.refl _ _) _) _
  obtain ⟨x0, x1, x2, x3, x4, x5⟩ : C6 w.heap.size (.int .i64 a.so) (.bool a.bo) (.bool a.p.s) (.slice a.p.A i1 a.p.a) (.slice a.p.B i2 a.p.b) (.int .i64 a.el) ((w.alloc (.cells #[.int .i64 a.so, .bool a.bo, .bool a.p.s, .slice a.p.A i1 a.p.a, .slice a.p.B i2 a.p.b, .int .i64 a.el] 30)).alloc (.cells #[.int .i64 b.so, .bool b.bo, .bool b.p.s, .slice b.p.A j1 b.p.a, .slice b.p.B j2 b.p.b, .int .i64 b.el] 30)) := C6.of ((Bk.new _ _ w).al _)
  obtain ⟨y0, y1, y2, y3, y4, y5⟩ : C6 (w.heap.size + 1) (.int .i64 b.so) (.bool b.bo) (.bool b.p.s) (.slice b.p.A j1 b.p.a) (.slice b.p.B j2 b.p.b) (.int .i64 b.el) ((w.alloc (.cells #[.int .i64 a.so, .bool a.bo, .bool a.p.s, .slice a.p.A i1 a.p.a, .slice a.p.B i2 a.p.b, .int .i64 a.el] 30)).alloc (.cells #[.int .i64 b.so, .bool b.bo, .bool b.p.s, .slice b.p.A j1 b.p.a, .slice b.p.B j2 b.p.b, .int .i64 b.el] 30)) := C6.of (Bk.new1 _ _ w _)
  replace hb := hide hb
  by_cases hx : b0 = true ∧ b3 = true ∧ b5 = true
  · obtain ⟨rfl, rfl, rfl⟩ := hx
    go_enter Tryz.func14, Tryz.ntmps14
    go_wp2_with (go_at_call 35; (with_reducible refine (hS.out _ hb.out).mono ?_); rintro e w1 ⟨rfl, hb1⟩; replace hb1 := hide hb1)
    go_ret
    exact ⟨rfl, bl_trans hb.out hb1.out⟩
  · cases b0 with
    | false =>
      go_enter Tryz.func14, Tryz.ntmps14
      go_wp2_with fail
      go_ret
      exact ⟨rfl, hb.out⟩
    | true =>
      cases b3 with
      | false =>
        go_enter Tryz.func14, Tryz.ntmps14
        go_wp2_with fail
        go_ret
        exact ⟨rfl, hb.out⟩
      | true =>
        cases b5 with
        | false =>
          go_enter Tryz.func14, Tryz.ntmps14
          go_wp2_with fail
          go_ret
          exact ⟨rfl, hb.out⟩
        | true => exact absurd ⟨rfl, rfl, rfl⟩ hx
def sameL : List Vl → List Vl → Bool
  | [], [] => true
  | a :: l, b :: m => vsame a b && sameL l m
  | _, _ => false
theorem sameL_len {l m : List Vl} (h : l.length ≠ m.length) : sameL l m = false := by
  induction l generalizing m with
  | nil => cases m with
    | nil => exact absurd rfl h
    | cons => rfl
  | cons a l ih => cases m with
    | nil => rfl
    | cons b m =>
      unfold sameL
      rw [ih (fun e => h (by simp [e])), Bool.and_false]
theorem sameL_step {l m : List Vl} {i : Nat} (h1 : i < l.length) (h2 : i < m.length) : sameL (l.drop i) (m.drop i) = (vsame l[i] m[i] && sameL (l.drop (i + 1)) (m.drop (i + 1))) := by
  rw [List.drop_eq_getElem_cons h1, List.drop_eq_getElem_cons h2]
  rfl
theorem equalF_v (A B : Option Addr) (c d : Nat) (l m : List Vl) (w : World) {Z Z' : List Nat} (hl : Vs Z w A l) (hm : Vs Z' w B m) (fl : ∀ p ∈ l, p.Few) (fm : ∀ p ∈ m, p.Few) (nl : l.length ≤ 1000000) (nm : m.length ≤ 1000000) (r : Bool) (hr : sameL l m = r) :
    Calls Tryz.prog 64 #[.slice A l.length c, .slice B m.length d, .func (.func 10) #[] #[]] w fun e w' => e = .returned (.bool r) ∧ Below w.heap.size w w' := by
  by_cases hlm : l.length = m.length
  · have hS := hide (fun (p r : Vl) (hp : p ∈ l) (hr : r ∈ m) W (a1 : p.At W) (a2 : r.At W) => same_v (fl p hp) (fm r hr) W a1 a2)
    have hP := hide (fun W (b : Below w.heap.size w W) => Vs.next hl b)
    have hQ := hide (fun W (b : Below w.heap.size w W) => Vs.next hm b)
    obtain ⟨n, hn⟩ : ∃ n, n = l.length := ⟨_, rfl⟩
    rw [← hlm, ← hn]
    rw [← hn] at nl hlm
    have hl' := hide hlm
    have hn' := hide hn
    replace hr := hide hr
    clear hlm hn hl hm nm fl fm
    go_enter Tryz.func64, Tryz.ntmps64
    go_wp2_with fail
    go_loopw [17] (fun ix wr => ∃ i : Nat, i ≤ n ∧ ix = .int .i64 (i : Int) ∧ Below w.heap.size w wr ∧ sameL (l.drop i) (m.drop i) = r) (fun ix _ => n - (intOf ix).toNat)
    case atStart => exact ⟨0, Nat.zero_le _, rfl, .refl _ _, hr.out⟩
    case round =>
      obtain ⟨i, hi, rfl, hbw, htk⟩ := hrel
      by_cases hlt : i < n
      · have h1 : i < l.length := by rw [← hn'.out]; exact hlt
        have h2 : i < m.length := by rw [← hl'.out]; exact hlt
        rw [sameL_step h1 h2] at htk
        have a1 := (hP.out wr hbw).2 _ (List.getElem_mem h1)
        have a2 := (hQ.out wr hbw).2 _ (List.getElem_mem h2)
        obtain ⟨g1, o1, rfl, _, x0, x1, x2, x3, x4, x5⟩ := (hP.out wr hbw).1.at6 h1
        obtain ⟨g2, o2, rfl, _, y0, y1, y2, y3, y4, y5⟩ := (hQ.out wr hbw).1.at6 h2
        have hb2 : Below wr.heap.size wr ((wr.alloc (.cells #[.int .i64 l[i].so, .bool l[i].bo, .bool l[i].p.s, .slice l[i].p.A l[i].p.xs.length l[i].p.a, .slice l[i].p.B l[i].p.ys.length l[i].p.b, .int .i64 l[i].el] 30)).alloc (.cells #[.int .i64 m[i].so, .bool m[i].bo, .bool m[i].p.s, .slice m[i].p.A m[i].p.xs.length m[i].p.a, .slice m[i].p.B m[i].p.ys.length m[i].p.b, .int .i64 m[i].el] 30)) := bl_al (bl_al (.refl _ _) _) _
        obtain ⟨b, hb⟩ : ∃ b, vsame l[i] m[i] = b := ⟨_, rfl⟩
        have hS := hS.out l[i] m[i] (List.getElem_mem h1) (List.getElem_mem h2) _ (a1.next hb2) (a2.next hb2) b hb
        rw [hb] at htk
        have hy1 : Below wr.heap.size wr (wr.alloc (.cells #[.int .i64 l[i].so, .bool l[i].bo, .bool l[i].p.s, .slice l[i].p.A l[i].p.xs.length l[i].p.a, .slice l[i].p.B l[i].p.ys.length l[i].p.b, .int .i64 l[i].el] 30)) := bl_al (.refl _ _) _
        have z0 := cell_next hy1 y0
        have z1 := cell_next hy1 y1
        have z2 := cell_next hy1 y2
        have z3 := cell_next hy1 y3
        have z4 := cell_next hy1 y4
        have z5 := cell_next hy1 y5
        unfold Vl.v at hS
        replace hS := hide hS; replace htk := hide htk
        clear a1 a2 hP hQ y0 y1 y2 y3 y4 y5 hy1 hb
        generalize l[i] = p at *
        generalize m[i] = q at *
        generalize p.p.xs.length = i1 at *
        generalize p.p.ys.length = i2 at *
        generalize q.p.xs.length = j1 at *
        generalize q.p.ys.length = j2 at *
        have hlt' : (i : Int) < (n : Int) := by omega
        replace hb2 := hide hb2
        cases b with
        | false =>
          go_wp2_with (go_at_call 10; (with_reducible refine hS.out.mono ?_); rintro e wa ⟨rfl, hb3⟩; replace hb3 := hide hb3)
          go_ret
          exact ⟨by rw [← htk.out]; rfl, bl_trans hbw (bl_trans hb2.out hb3.out)⟩
        | true =>
          go_wp2_with (go_at_call 10; (with_reducible refine hS.out.mono ?_); rintro e wa ⟨rfl, hb3⟩; replace hb3 := hide hb3)
          go_roundw
          case rel => exact ⟨i + 1, hlt, by go_num, bl_trans hbw (bl_trans hb2.out hb3.out), by have := htk.out; rwa [Bool.true_and] at this⟩
          case measure => simp only [intOf]; omega
      · have hin : i = n := by omega
        have e1 : l.drop i = [] := List.drop_eq_nil_of_le (by rw [← hn'.out]; omega)
        have e2 : m.drop i = [] := List.drop_eq_nil_of_le (by rw [← hl'.out]; omega)
        rw [e1, e2] at htk
        subst hin
        have hd : r = true := htk.symm
        clear htk e1 e2
        subst hd
        go_wp2_with fail
        go_ret
        exact ⟨rfl, hbw⟩
  · have hd := sameL_len hlm
    have q1 : ((l.length : Int) != (m.length : Int)) = true := by simp; omega
    clear hl hm
    rw [hd] at hr
    subst hr
    clear hd
    generalize l.length = n at *
    generalize m.length = k at *
    have hl2 : ¬ ((n : Int) = (k : Int)) := by omega
    go_enter Tryz.func64, Tryz.ntmps64
    go_wp2_with fail
    go_ret
    exact ⟨rfl, .refl _ _⟩
end
section
section
variable {P : Program} {ops : Array Oper} {Q : Exit → Act → World → Prop} {md : Region.Mode} {S : World → Prop} {t : Nat}
def wpAnyT (P : Program) (md : Region.Mode) (ops : Array Oper) (Q : Exit → Act → World → Prop) (S : World → Prop) (t : Nat) : Nat → Array Bool → Act → World → Prop
  | 0, listed, a, w => Region.ready md ops listed = [] ∧ Q .normal a w
  | fuel + 1, listed, a, w =>
    (Region.ready md ops listed = [] → Q .normal a w) ∧
    ∀ i ∈ Region.ready md ops listed, wpOp P ops Q i (fun a' w' => ((listed.setIfInBounds i true).getD t true = false → S w') ∧ wpAnyT P md ops Q S t fuel (listed.setIfInBounds i true) a' w') a w
theorem wpAny_of_T : ∀ (fuel : Nat) (listed : Array Bool) (a : Act) (w : World), wpAnyT P md ops Q S t fuel listed a w → wpAny P md ops Q fuel listed a w
  | 0, _, _, _, h => h
  | fuel + 1, _, _, _, h => ⟨h.1, fun i hi => wpOp_mono (fun a' w' h' => wpAny_of_T fuel _ a' w' h'.2) (h.2 i hi)⟩
def ClosedL (md : Region.Mode) (ops : Array Oper) (listed : Array Bool) : Prop := ∀ j oj, ops[j]? = some oj → listed.getD j true = true → ∀ e ∈ oj.after, Region.binds md e = true → listed.getD e.on false = true
def closedB (md : Region.Mode) (ops : Array Oper) (listed : Array Bool) : Bool := (List.range ops.size).all fun j => !listed.getD j true || ((ops[j]?).map (·.after.all fun e => !Region.binds md e || listed.getD e.on false)).getD false
theorem closed_of {listed : Array Bool} (h : closedB md ops listed = true) : ClosedL md ops listed := by
  intro j oj hj hl e he hb
  unfold closedB at h
  rw [List.all_eq_true] at h
  have h1 := h j (List.mem_range.2 (Array.getElem?_eq_some_iff.1 hj).1)
  simp only [hl, Bool.not_true, Bool.false_or, hj, Option.map_some, Option.getD_some, Array.all_eq_true'] at h1
  have h2 := h1 e he
  simpa [hb] using h2
theorem ClosedL.step {listed : Array Bool} {i : Nat} (h : ClosedL md ops listed) (hi : i ∈ Region.ready md ops listed) : ClosedL md ops (listed.setIfInBounds i true) := by
  intro j oj hj hl e he hb
  by_cases hji : j = i
  · subst hji
    obtain ⟨_, o, ho, hall⟩ := mem_ready.1 hi
    rw [hj] at ho
    cases ho
    exact getD_set_true (hall e he hb)
  · rw [getD_set_ne true (Ne.symm hji)] at hl
    exact getD_set_true (h j oj hj hl e he hb)
def depB (md : Region.Mode) (ops : Array Oper) : Nat → Nat → Nat → Bool
  | 0, _, _ => false
  | f + 1, k, i => ((ops[k]?).map (·.after.any fun e => Region.binds md e && (e.on == i || depB md ops f e.on i))).getD false
theorem dep_un {listed : Array Bool} (hc : ClosedL md ops listed) {i : Nat} (hi : listed.getD i true = false) : ∀ (f k : Nat), depB md ops f k i = true → listed.getD k true = false
  | 0, k, h => by cases h
  | f + 1, k, h => by
    unfold depB at h
    cases ho : ops[k]? with
    | none => rw [ho] at h; cases h
    | some o =>
      rw [ho] at h
      simp only [Option.map_some, Option.getD_some, Array.any_eq_true'] at h
      obtain ⟨e, he, hx⟩ := h
      simp only [Bool.and_eq_true, Bool.or_eq_true, beq_iff_eq] at hx
      obtain ⟨hb, hx⟩ := hx
      have hun : listed.getD e.on true = false := by
        rcases hx with hx | hx
        · rw [hx]; exact hi
        · exact dep_un hc hi f e.on hx
      rcases hk : listed.getD k true with _ | _
      · rfl
      · have := hc k o ho hk e he hb
        rcases Nat.lt_or_ge e.on listed.size with h' | h'
        · simp [h'] at this hun; rw [hun] at this; cases this
        · simp [Array.getElem?_eq_none h'] at hun
theorem wpAnyT_first {i : Nat} {oi : Oper} {v : Value} {f : Nat} (hi : ops[i]? = some oi) (hsel : ∀ (j : Nat) (o : Oper) cs b, ops[j]? = some o → o.op ≠ .select cs b)
    (hQ : ∀ c a w, Q (.panic c) (a.put oi.dst v) w → Q (.panic c) a w) (hd : depB md ops f t i = true) (hit : i ≠ t) :
    ∀ (fuel : Nat) (listed : Array Bool) (a : Act) (w : World), ClosedL md ops listed →
      (∀ j oj, ops[j]? = some oj → j ≠ i → listed.getD j true = false → (∀ e ∈ oj.after, Region.binds md e = true → e.on ≠ i) → oi.apart ops oj = true) →
      i ∈ Region.ready md ops listed → YieldsIf P ops S oi v a → S w →
      wpAnyT P md ops Q S t fuel (listed.setIfInBounds i true) (a.put oi.dst v) w → wpAnyT P md ops Q S t (fuel + 1) listed a w := by
  intro fuel
  induction fuel with
  | zero =>
    intro listed a w hc _ hr hy hS H
    refine ⟨fun h => (by rw [h] at hr; cases hr), fun j hj => ?_⟩
    by_cases hji : j = i
    · subst hji; exact hy.wpOp hi hS ⟨fun _ => hS, H⟩
    · have := ready_mono hj hji
      rw [H.1] at this
      cases this
  | succ fuel ih =>
    intro listed a w hc hfree hr hy hS H
    refine ⟨fun h => (by rw [h] at hr; cases hr), fun j hj => ?_⟩
    by_cases hji : j = i
    · subst hji; exact hy.wpOp hi hS ⟨fun _ => hS, H⟩
    · have h1 := H.2 j (ready_mono hj hji)
      obtain ⟨hjun, oj, hoj, hall⟩ := mem_ready.1 hj
      have hnot : ∀ e ∈ oj.after, Region.binds md e = true → e.on ≠ i := fun e he hb heq => by
        have h1 := hall e he hb
        have h0 := (mem_ready.1 hr).1
        rw [heq] at h1
        rcases Nat.lt_or_ge i listed.size with h' | h'
        · simp [h'] at h0 h1; rw [h0] at h1; cases h1
        · simp [Array.getElem?_eq_none h'] at h1
      have h2 := wpOp_putIf hoj (hfree j oj hoj hji hjun hnot) (fun cs b => hsel i oi cs b hi) (fun cs b => hsel j oj cs b hoj) hQ hy h1
      have hfree' : ∀ k ok, ops[k]? = some ok → k ≠ i → (listed.setIfInBounds j true).getD k true = false →
          (∀ e ∈ ok.after, Region.binds md e = true → e.on ≠ i) → oi.apart ops ok = true := fun k ok hk hki hun hno => by
        refine hfree k ok hk hki ?_ hno
        by_cases hjk : j = k
        · subst hjk; exact hjun
        · rw [getD_set_ne true hjk] at hun; exact hun
      have hc' := hc.step hj
      have hir := ready_mono hr (Ne.symm hji)
      have htu : (listed.setIfInBounds j true).getD t true = false := dep_un hc' (mem_ready.1 hir).1 f t hd
      refine wpOp_mono (fun a' w' h3 => ?_) h2
      have hSw : S w' := h3.2.1 (by rw [Array.setIfInBounds_comm _ _ (Ne.symm hji), getD_set_ne true hit]; exact htu)
      refine ⟨fun _ => hSw, ih (listed.setIfInBounds j true) a' w' hc' hfree' hir h3.1 hSw ?_⟩
      rw [Array.setIfInBounds_comm _ _ hji]
      exact h3.2.2
theorem wpAnyT_take (f : Nat) {i : Nat} {oi : Oper} {v : Value} {fuel : Nat} {listed : Array Bool} {a : Act} {w : World} (hi : ops[i]? = some oi)
    (hs : Region.noSelect ops = true) (hf : Region.free md ops listed i = true) (hr : (Region.ready md ops listed).contains i = true) (hcl : closedB md ops listed = true) (hd : depB md ops f t i = true) (hit : (i == t) = false)
    (hQ : ∀ c a w, Q (.panic c) (a.put oi.dst v) w → Q (.panic c) a w) (hy : YieldsIf P ops S oi v a) (hS : S w)
    (h : wpAnyT P md ops Q S t fuel (listed.setIfInBounds i true) (a.put oi.dst v) w) : wpAnyT P md ops Q S t (fuel + 1) listed a w :=
  wpAnyT_first hi (Region.noSelect_spec hs) hQ hd (beq_eq_false_iff_ne.1 hit) fuel listed a w (closed_of hcl) (Region.free_spec hi hf) (by simpa using hr) hy hS h
def AllReadyT (P : Program) (md : Region.Mode) (ops : Array Oper) (Q : Exit → Act → World → Prop) (S : World → Prop) (t : Nat) (fuel : Nat) (listed : Array Bool) (a : Act) (w : World) (rs : List Nat) : Prop :=
  ∀ i ∈ rs, wpOp P ops Q i (fun a' w' => ((listed.setIfInBounds i true).getD t true = false → S w') ∧ wpAnyT P md ops Q S t fuel (listed.setIfInBounds i true) a' w') a w
theorem AllReadyT.nil {fuel : Nat} {listed : Array Bool} {a : Act} {w : World} : AllReadyT P md ops Q S t fuel listed a w [] := fun _ h => by cases h
theorem AllReadyT.cons {fuel : Nat} {listed : Array Bool} {a : Act} {w : World} {i : Nat} {o : Oper} {rs : List Nat} (ho : ops[i]? = some o)
    (h : ∀ K' : Act → World → Prop, Shut (∀ a w, S w → (S w → wpAnyT P md ops Q S t fuel (listed.setIfInBounds i true) a w) → K' a w) → if Region.wanted o (yielded ops a.tmps) = true then Oper.wp P o a w K' Q else K' (a.put o.dst undef) w)
    (hs : AllReadyT P md ops Q S t fuel listed a w rs) : AllReadyT P md ops Q S t fuel listed a w (i :: rs) := fun j hj => by
  rcases List.mem_cons.1 hj with rfl | hj
  · exact wpOp_step ho (fun K' hK => h K' (fun a w hS hW => hK a w ⟨fun _ => hS, hW hS⟩))
  · exact hs j hj
theorem AllReadyT.last {fuel : Nat} {listed : Array Bool} {a : Act} {w : World} {i : Nat} {o : Oper} {rs : List Nat} (ho : ops[i]? = some o) (hl : (listed.setIfInBounds i true).getD t true = true)
    (h : ∀ K' : Act → World → Prop, Shut (∀ a w, wpAnyT P md ops Q S t fuel (listed.setIfInBounds i true) a w → K' a w) → if Region.wanted o (yielded ops a.tmps) = true then Oper.wp P o a w K' Q else K' (a.put o.dst undef) w)
    (hs : AllReadyT P md ops Q S t fuel listed a w rs) : AllReadyT P md ops Q S t fuel listed a w (i :: rs) := fun j hj => by
  rcases List.mem_cons.1 hj with rfl | hj
  · exact wpOp_step ho (fun K' hK => h K' (fun a w hW => hK a w ⟨fun h0 => (by rw [hl] at h0; cases h0), hW⟩))
  · exact hs j hj
theorem wpAnyT_ready {rs : List Nat} {fuel : Nat} {listed : Array Bool} {a : Act} {w : World} (hr : Region.ready md ops listed = rs) (hne : rs ≠ [])
    (h : AllReadyT P md ops Q S t fuel listed a w rs) : wpAnyT P md ops Q S t (fuel + 1) listed a w := ⟨fun h0 => absurd (hr ▸ h0) hne, hr ▸ h⟩
theorem wpAnyT_done {listed : Array Bool} {a : Act} {w : World} (hr : Region.ready md ops listed = []) (h : Q .normal a w) :
    ∀ fuel, wpAnyT P md ops Q S t fuel listed a w
  | 0 => ⟨hr, h⟩
  | _ + 1 => ⟨fun _ => h, by rw [hr]; simp⟩
theorem wp_region_T (S : World → Prop) (t : Nat) {id : Nat} {a : Act} {w : World} (hm : P.follows .mixedOrders = true) (hS : S w.drew)
    (h : S w.drew → wpAnyT P .any ops Q S t ops.size (Array.replicate ops.size false) a w.drew) : (Code.region id ops true).wp P Q a w :=
  wp_region_any hm (wpAny_of_T _ _ _ _ (h hS))
theorem wp_append_ex {o : Oper} {a : Act} {w : World} {K : Act → World → Prop} (s x : Operand) (ty : TypeId)
    (ho : o.op = .call { callee := .builtin .append, args := #[s, x], argTypes := #[ty, ty] }) (u v : Value) (hs : a.eval s = u) (hx : a.eval x = v) (G : Value → World → Prop)
    (hrun : ∃ r w', (∀ t', (Builtin.append_ #[ty, ty] t' #[u, v]).run P w = .ok r w') ∧ G r w') (hK : ∀ r w', G r w' → K (a.put o.dst r) w') : Oper.wp P o a w K Q := by
  obtain ⟨r, w', hr, hG⟩ := hrun
  unfold Oper.wp execOp
  simp only [ho, resolve, invoke, builtin, Sem.run_bind, Sem.run_pure, Result.andThen_ok, List.map_toArray, List.map_cons, List.map_nil, hs, hx, hr]
  exact hK _ _ hG
end
end
section
section
variable {P : Program} {ops : Array Oper} {Q : Exit → Act → World → Prop} {md : Region.Mode} {S : World → Prop} {fuel : Nat} {listed : Array Bool} {a a' : Act} {w : World}
theorem tkH (i : Nat) {oi : Oper} {v : Value} (hi : ops[i]? = some oi := by (simp only [List.getElem?_toArray, List.getElem?_cons_zero, List.getElem?_cons_succ]) <;> rfl) (hs : Region.noSelect ops = true := by kernel_rfl) (hf : Region.free md ops listed i = true := by kernel_rfl) (hr : (Region.ready md ops listed).contains i = true := by kernel_rfl)
    (hQ : ∀ c a w, Q (.panic c) (a.put oi.dst v) w → Q (.panic c) a w := by exact fun _ _ _ h => h) (hy : YieldsIf P ops S oi v a := by exact Or.inl ⟨by rfl, by (intro w hSw; (try dsimp only at hSw); go_simp) <;> (with_reducible rfl)⟩) (hS : S w := by assumption)
    (hp : a.put oi.dst v = a' := by (try simp only [Act.put, List.setIfInBounds_toArray, List.set_cons_zero, List.set_cons_succ]) <;> rfl) (h : wpAnyH P md ops Q S fuel (listed.setIfInBounds i true) a' w) : wpAnyH P md ops Q S (fuel + 1) listed a w := wpAnyH_take hi hs hf hr hQ hy hS (hp ▸ h)
theorem rdH (i : Nat) {o : Oper} (hr : Region.ready md ops listed = [i] := by kernel_rfl) (ho : ops[i]? = some o := by (simp only [List.getElem?_toArray, List.getElem?_cons_zero, List.getElem?_cons_succ]) <;> rfl)
    (h : ∀ K' : Act → World → Prop, Shut (∀ a w, S w → (S w → wpAnyH P md ops Q S fuel (listed.setIfInBounds i true) a w) → K' a w) → if Region.wanted o (yielded ops a.tmps) = true then Oper.wp P o a w K' Q else K' (a.put o.dst undef) w) : wpAnyH P md ops Q S (fuel + 1) listed a w :=
  wpAnyH_ready hr (by simp) (AllReadyH.cons ho h AllReadyH.nil)
theorem tkT {t : Nat} (i : Nat) {oi : Oper} {v : Value} (hi : ops[i]? = some oi := by (simp only [List.getElem?_toArray, List.getElem?_cons_zero, List.getElem?_cons_succ]) <;> rfl) (hs : Region.noSelect ops = true := by kernel_rfl) (hf : Region.free md ops listed i = true := by kernel_rfl) (hr : (Region.ready md ops listed).contains i = true := by kernel_rfl)
    (hcl : closedB md ops listed = true := by kernel_rfl) (hd : depB md ops 12 t i = true := by kernel_rfl) (hit : (i == t) = false := by rfl)
    (hQ : ∀ c a w, Q (.panic c) (a.put oi.dst v) w → Q (.panic c) a w := by exact fun _ _ _ h => h) (hy : YieldsIf P ops S oi v a := by exact Or.inl ⟨by rfl, by (intro w hSw; (try dsimp only at hSw); go_simp) <;> (with_reducible rfl)⟩) (hS : S w := by assumption)
    (hp : a.put oi.dst v = a' := by (try simp only [Act.put, List.setIfInBounds_toArray, List.set_cons_zero, List.set_cons_succ]) <;> rfl) (h : wpAnyT P md ops Q S t fuel (listed.setIfInBounds i true) a' w) : wpAnyT P md ops Q S t (fuel + 1) listed a w := wpAnyT_take 12 hi hs hf hr hcl hd hit hQ hy hS (hp ▸ h)
theorem rdT {t : Nat} (i : Nat) {o : Oper} (hr : Region.ready md ops listed = [i] := by kernel_rfl) (ho : ops[i]? = some o := by (simp only [List.getElem?_toArray, List.getElem?_cons_zero, List.getElem?_cons_succ]) <;> rfl)
    (h : ∀ K' : Act → World → Prop, Shut (∀ a w, S w → (S w → wpAnyT P md ops Q S t fuel (listed.setIfInBounds i true) a w) → K' a w) → if Region.wanted o (yielded ops a.tmps) = true then Oper.wp P o a w K' Q else K' (a.put o.dst undef) w) : wpAnyT P md ops Q S t (fuel + 1) listed a w :=
  wpAnyT_ready hr (by simp) (AllReadyT.cons ho h AllReadyT.nil)
theorem kH {K : Act → World → Prop} (hK : Shut (∀ a w, S w → (S w → wpAnyH P md ops Q S fuel listed a w) → K a w)) (hS : S w) (hp : a = a' := by (try simp only [Act.put, List.setIfInBounds_toArray, List.set_cons_zero, List.set_cons_succ]) <;> rfl) (h : S w → wpAnyH P md ops Q S fuel listed a' w) : K a w := hK.out a w hS (fun s => hp ▸ h s)
theorem rd2H (i j : Nat) {o0 o1 : Oper} (hr : Region.ready md ops listed = [i, j] := by kernel_rfl) (ho0 : ops[i]? = some o0 := by (simp only [List.getElem?_toArray, List.getElem?_cons_zero, List.getElem?_cons_succ]) <;> rfl) (ho1 : ops[j]? = some o1 := by (simp only [List.getElem?_toArray, List.getElem?_cons_zero, List.getElem?_cons_succ]) <;> rfl) (h0 : ∀ K' : Act → World → Prop, Shut (∀ a w, S w → (S w → wpAnyH P md ops Q S fuel (listed.setIfInBounds i true) a w) → K' a w) → if Region.wanted o0 (yielded ops a.tmps) = true then Oper.wp P o0 a w K' Q else K' (a.put o0.dst undef) w)
    (h1 : ∀ K' : Act → World → Prop, Shut (∀ a w, S w → (S w → wpAnyH P md ops Q S fuel (listed.setIfInBounds j true) a w) → K' a w) → if Region.wanted o1 (yielded ops a.tmps) = true then Oper.wp P o1 a w K' Q else K' (a.put o1.dst undef) w) : wpAnyH P md ops Q S (fuel + 1) listed a w := wpAnyH_ready hr (by simp) (AllReadyH.cons ho0 h0 (AllReadyH.cons ho1 h1 AllReadyH.nil))
theorem kT {t : Nat} {K : Act → World → Prop} (hK : Shut (∀ a w, S w → (S w → wpAnyT P md ops Q S t fuel listed a w) → K a w)) (hS : S w) (hp : a = a' := by (try simp only [Act.put, List.setIfInBounds_toArray, List.set_cons_zero, List.set_cons_succ]) <;> rfl) (h : S w → wpAnyT P md ops Q S t fuel listed a' w) : K a w := hK.out a w hS (fun s => hp ▸ h s)
theorem rd2T {t : Nat} (i j : Nat) {o0 o1 : Oper} (hr : Region.ready md ops listed = [i, j] := by kernel_rfl) (ho0 : ops[i]? = some o0 := by (simp only [List.getElem?_toArray, List.getElem?_cons_zero, List.getElem?_cons_succ]) <;> rfl) (ho1 : ops[j]? = some o1 := by (simp only [List.getElem?_toArray, List.getElem?_cons_zero, List.getElem?_cons_succ]) <;> rfl) (h0 : ∀ K' : Act → World → Prop, Shut (∀ a w, S w → (S w → wpAnyT P md ops Q S t fuel (listed.setIfInBounds i true) a w) → K' a w) → if Region.wanted o0 (yielded ops a.tmps) = true then Oper.wp P o0 a w K' Q else K' (a.put o0.dst undef) w)
    (h1 : ∀ K' : Act → World → Prop, Shut (∀ a w, S w → (S w → wpAnyT P md ops Q S t fuel (listed.setIfInBounds j true) a w) → K' a w) → if Region.wanted o1 (yielded ops a.tmps) = true then Oper.wp P o1 a w K' Q else K' (a.put o1.dst undef) w) : wpAnyT P md ops Q S t (fuel + 1) listed a w := wpAnyT_ready hr (by simp) (AllReadyT.cons ho0 h0 (AllReadyT.cons ho1 h1 AllReadyT.nil))
theorem rd3H (i j k : Nat) {o0 o1 o2 : Oper} (hr : Region.ready md ops listed = [i, j, k] := by kernel_rfl) (ho0 : ops[i]? = some o0 := by (simp only [List.getElem?_toArray, List.getElem?_cons_zero, List.getElem?_cons_succ]) <;> rfl) (ho1 : ops[j]? = some o1 := by (simp only [List.getElem?_toArray, List.getElem?_cons_zero, List.getElem?_cons_succ]) <;> rfl) (ho2 : ops[k]? = some o2 := by (simp only [List.getElem?_toArray, List.getElem?_cons_zero, List.getElem?_cons_succ]) <;> rfl) (h0 : ∀ K' : Act → World → Prop, Shut (∀ a w, S w → (S w → wpAnyH P md ops Q S fuel (listed.setIfInBounds i true) a w) → K' a w) → if Region.wanted o0 (yielded ops a.tmps) = true then Oper.wp P o0 a w K' Q else K' (a.put o0.dst undef) w)
    (h1 : ∀ K' : Act → World → Prop, Shut (∀ a w, S w → (S w → wpAnyH P md ops Q S fuel (listed.setIfInBounds j true) a w) → K' a w) → if Region.wanted o1 (yielded ops a.tmps) = true then Oper.wp P o1 a w K' Q else K' (a.put o1.dst undef) w)
    (h2 : ∀ K' : Act → World → Prop, Shut (∀ a w, S w → (S w → wpAnyH P md ops Q S fuel (listed.setIfInBounds k true) a w) → K' a w) → if Region.wanted o2 (yielded ops a.tmps) = true then Oper.wp P o2 a w K' Q else K' (a.put o2.dst undef) w) : wpAnyH P md ops Q S (fuel + 1) listed a w := wpAnyH_ready hr (by simp) (AllReadyH.cons ho0 h0 (AllReadyH.cons ho1 h1 (AllReadyH.cons ho2 h2 AllReadyH.nil)))
end
end
end Nt
end Go.Proofs.YthabfakbdfaciaaGreat
