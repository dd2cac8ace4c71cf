
/-
  Sums: what a function tells of an id (linear.told).
  Sums: a row of numbers that is being written.
  Sums: what one is (linear.Value).
  Sums: what one is (linear.Value), of what may be.
  Sums: what theodolitelaw8.awake calls.
  Sums and numbers in boxes.
  Sums in boxes: what each call makes of them.
-/
import Derived.Test.YtgimmmmpollkhaaGreatNYk
import Derived.WalkKit
import Derived.Defers
import Derived.Recover
import Derived.Test.YtgimmmmpollkhaaGreatNYp
namespace Go.Proofs.YtgimmmmpollkhaaGreat

open Go.ChangeShapes Go.RowKit

namespace Nt
set_option maxRecDepth 100000
set_option linter.unusedSimpArgs false
set_option linter.unusedVariables false

theorem told_idle (w : World) : CallsD Tryz.prog 114 #[] .returning w fun e u' w' => e = .returned (.tuple #[]) ∧ u' = .returning ∧ w' = w := by
  refine callsD_of_wpS Tryz.func114 rfl fun c₀ cs hu => ?_
  apply wpS_region
  simp [wpOpsS, go_sem, recoverD, hu, Tryz.ntmps114, Exit.thenS, bodyPostS, results, Tryz.results114]
  cases c₀
  simp_all
def TellO (o : Int → Bool × List Nat × List Nat) (t : Int) (w : World) (e : Ending) (w' : World) : Prop := ∃ r : Pt, e = .returned (.agg #[.bool r.s, .slice r.A r.xs.length r.a, .slice r.B r.ys.length r.b]) ∧ (r.s, r.xs, r.ys) = o t ∧ r.At w' ∧ r.Few ∧ Below w.heap.size w w'
set_option maxHeartbeats 4000000 in
theorem told_any (F : FuncId) (cs : Array Value) (o : Int → Bool × List Nat × List Nat) (t : Int) (w : World)
    (hE : ∀ (args : Array Value) (W : World), (callFunc F args).run Tryz.prog W = .ok (.enter F args) W) (hF : ∀ W, Below w.heap.size w W → Calls Tryz.prog F (#[.int .i64 t] ++ cs) W (TellO o t W)) :
    Calls Tryz.prog 66 #[.func (.func F) #[] cs, .int .i64 t] w (TellO o t w) := by
  have hmf : ∀ (fn : Go.Fn) (first cap : Array Value) (w : World), (Instr.makeFunc fn first cap).run Tryz.prog w = .ok (.func fn first cap) w := fun _ _ _ _ => rfl
  have hb : Below w.heap.size w (w.alloc (.cells zR 25)) := bl_al (.refl _ _) _
  have hF := hide (hF _ hb)
  unfold zR at hF hb
  go_enter_defers Tryz.func66, Tryz.ntmps66
  go_wp2_with fail
  refine hF.out.mono ?_
  rintro e wa ⟨r, rfl, ho, har, hf, hb3⟩
  have hX := (Bk.new zR 25 w).next hb3
  have hbw := bl_trans hb hb3
  have r0 := hX.cell (j := 0) rfl
  have r1 := hX.cell (j := 1) rfl
  have r2 := hX.cell (j := 2) rfl
  have s0 := hX.free 0
  have s1 := hX.free 1
  have s2 := hX.free 2
  have hO := off3 w.heap.size wa (.bool r.s) (.slice r.A r.xs.length r.a) (.slice r.B r.ys.length r.b)
  have hfin : TellO o t w (.returned (.agg #[.bool r.s, .slice r.A r.xs.length r.a, .slice r.B r.ys.length r.b])) (((wa.setCell ⟨w.heap.size, 0, none⟩ (.bool r.s)).setCell ⟨w.heap.size, 1, none⟩ (.slice r.A r.xs.length r.a)).setCell ⟨w.heap.size, 2, none⟩ (.slice r.B r.ys.length r.b)) :=
    ⟨r, rfl, ho, ⟨hX.sl zR_no har.1 hO, hX.sl zR_no har.2 hO⟩, hf, hbw.trans (hO.below hbw.size (fun b hb => by simp at hb; omega))⟩
  replace hfin := hide hfin
  clear ho har hf hb3 hX hbw hO hb
  go_wp2_with fail
  refine leaves_cons (f := 114) (args := #[]) (by simp) (by simp [go_sem]) ?_
  refine (told_idle _).mono ?_
  rintro e u' w'' ⟨rfl, rfl, rfl⟩
  simp [Leaves, settle, results, Tryz.results66, go_sem, r0, r1, r2]
  exact hfin.out
end Nt

end Go.Proofs.YtgimmmmpollkhaaGreat

namespace Go.Proofs.YtgimmmmpollkhaaGreat

open Go.ChangeShapes Go.RowKit

namespace Nt
set_option maxRecDepth 100000
set_option linter.unusedSimpArgs false
set_option linter.unusedVariables false

def Pt.rcs (p : Pt) : List Value := [.bool p.s, .slice p.A p.xs.length p.a, .slice p.B p.ys.length p.b]
def rcs (l : List Pt) : List Value := l.flatMap Pt.rcs
theorem rcs_len (l : List Pt) : (rcs l).length = l.length * 3 := by
  induction l with
  | nil => rfl
  | cons p l ih =>
    show (p.rcs ++ rcs l).length = _
    rw [List.length_append, ih, List.length_cons]
    show 3 + _ = _
    omega
theorem rcs_get (l : List Pt) (i k : Nat) (hi : i < l.length) (hk : k < 3) : (rcs l)[i * 3 + k]? = l[i].rcs[k]? := by
  induction l generalizing i with
  | nil => simp at hi
  | cons p l ih =>
    show (p.rcs ++ rcs l)[i * 3 + k]? = _
    cases i with
    | zero =>
      rw [List.getElem?_append_left (by show 0 * 3 + k < 3; omega)]
      simp
    | succ i =>
      rw [List.getElem?_append_right (by show 3 ≤ (i + 1) * 3 + k; omega)]
      have e : (i + 1) * 3 + k - p.rcs.length = i * 3 + k := by
        show (i + 1) * 3 + k - 3 = _
        omega
      rw [e, ih i (by simpa using hi)]
      rfl
theorem rcs_noU (l : List Pt) : ∀ v ∈ rcs l, noU v = true := by
  intro v hv
  obtain ⟨p, _, hv⟩ := List.mem_flatMap.1 hv
  simp [Pt.rcs] at hv
  rcases hv with rfl | rfl | rfl <;> rfl
theorem rcs_set (l : List Pt) (i : Nat) (p : Pt) : rcs (l.set i p) = (((rcs l).set (i * 3) (.bool p.s)).set (i * 3 + 1) (.slice p.A p.xs.length p.a)).set (i * 3 + 2) (.slice p.B p.ys.length p.b) := by
  induction l generalizing i with
  | nil => rfl
  | cons q l ih =>
    cases i with
    | zero => rfl
    | succ i =>
      show q.rcs ++ rcs (l.set i p) = _
      rw [ih]
      show _ = ((List.set (q.rcs ++ rcs l) _ _).set _ _).set _ _
      have e : ∀ (m : List Value) (k : Nat) v, (q.rcs ++ m).set (3 + k) v = q.rcs ++ m.set k v := fun m k v => by
        rw [List.set_append, if_neg (by show ¬ 3 + k < 3; omega)]
        show _ ++ m.set (3 + k - 3) v = _
        rw [Nat.add_sub_cancel_left]
      rw [show (i + 1) * 3 = 3 + i * 3 by omega, e, show 3 + i * 3 + 1 = 3 + (i * 3 + 1) by omega, e, show 3 + i * 3 + 2 = 3 + (i * 3 + 2) by omega, e]
def zPt : Pt := ⟨false, none, 0, [], none, 0, [], 0⟩
theorem zPt_at (W : World) : zPt.At W := ⟨.inl rfl, .inl rfl⟩
def Vw (g : Nat) (l : List Pt) (w : World) : Prop := Bk g (rcs l).toArray 25 w
section

variable {g : Nat} {l : List Pt} {w w' : World}
theorem Vw.off {T : List Nat} (h : Vw g l w) (hO : Off T w w') (hn : g ∉ T) : Vw g l w' := Bk.off h hO hn
theorem Vw.next (h : Vw g l w) (hb : Below w.heap.size w w') : Vw g l w' := Bk.next h hb
theorem Vw.free (h : Vw g l w) (j : Nat) : w.frozen? ⟨g, j, none⟩ = false := Bk.free h j
theorem Vw.cell (h : Vw g l w) {i : Nat} (hi : i < l.length) : w.cell? ⟨g, i * 3, none⟩ = some (.bool l[i].s) ∧ w.cell? ⟨g, i * 3 + 1, none⟩ = some (.slice l[i].A l[i].xs.length l[i].a) ∧ w.cell? ⟨g, i * 3 + 2, none⟩ = some (.slice l[i].B l[i].ys.length l[i].b) := by
  have key : ∀ k (hk : k < 3) v, l[i].rcs[k]? = some v → w.cell? ⟨g, i * 3 + k, none⟩ = some v := fun k hk v hv => by
    refine Bk.cell h ?_
    rw [List.getElem?_toArray, rcs_get l i k hi hk]
    exact hv
  exact ⟨key 0 (by decide) _ rfl, key 1 (by decide) _ rfl, key 2 (by decide) _ rfl⟩
theorem Vw.at_ {p : Pt} (h : Vw g l w) (hp : p.At w) (hO : Off [g] w w') : p.At w' := ⟨Bk.sl h (by simpa using rcs_noU l) hp.1 hO, Bk.sl h (by simpa using rcs_noU l) hp.2 hO⟩
theorem Vw.set (h : Vw g l w) (i : Nat) (p : Pt) : Vw g (l.set i p) (((w.setCell ⟨g, i * 3, none⟩ (.bool p.s)).setCell ⟨g, i * 3 + 1, none⟩ (.slice p.A p.xs.length p.a)).setCell ⟨g, i * 3 + 2, none⟩ (.slice p.B p.ys.length p.b)) := by
  have h3 := ((Bk.set h (j := i * 3) (.bool p.s) rfl).set (j := i * 3 + 1) (.slice p.A p.xs.length p.a) rfl).set (j := i * 3 + 2) (.slice p.B p.ys.length p.b) rfl
  unfold Vw
  rw [rcs_set]
  simpa using h3
end
theorem off3v (g i : Nat) (W : World) (a b c : Value) : Off [g] W (((W.setCell ⟨g, i * 3, none⟩ a).setCell ⟨g, i * 3 + 1, none⟩ b).setCell ⟨g, i * 3 + 2, none⟩ c) :=
  (((Off.refl [g] W).setCell _ _ (.inl (by simp))).setCell _ _ (.inl (by simp))).setCell _ _ (.inl (by simp))
theorem infR : ∃ i : TypeInfo, Tryz.prog.info? 25 = some i ∧ i.zero = some (.agg #[.bool false, .slice none 0 0, .slice none 0 0]) ∧ i.size = 3 ∧ i.bytes = 56 := info_parts (P := Tryz.prog) (e := 25) (z := .agg #[.bool false, .slice none 0 0, .slice none 0 0]) (size := 3) (bytes := 56) (by kernel_rfl)
def vz (n : Nat) : Obj := .cells (madeCells #[.bool false, .slice none 0 0, .slice none 0 0] (n * 3)) 25
theorem make_rats (n : Nat) (hn : n ≤ 1000000) (W : World) :
    (Instr.makeSlice 92 (.int .i64 (n : Int)) (.int .i64 (n : Int))).run Tryz.prog W = .ok (.slice (some ⟨W.heap.size, 0, none⟩) n n) (W.alloc (vz n)) := by
  obtain ⟨i, hi, hz, h1, h8⟩ := infR
  have hr := run_make (P := Tryz.prog) W 92 25 i _ Tryz.underlying92 hi hz .i64 .i64 n n (by omega) (by omega) (by rw [h8]; omega) (by omega)
  simp only [Int.toNat_natCast, h1] at hr
  exact hr
theorem Vw.new (n : Nat) (W : World) : Vw W.heap.size (List.replicate n zPt) (W.alloc (vz n)) := by
  have h := Bk.new (madeCells #[.bool false, .slice none 0 0, .slice none 0 0] (n * 3)) 25 W
  have e : madeCells #[.bool false, .slice none 0 0, .slice none 0 0] (n * 3) = (rcs (List.replicate n zPt)).toArray := by
    apply Array.ext'
    apply List.ext_getElem?
    intro j
    rw [Array.getElem?_toList]
    show _ = (rcs (List.replicate n zPt))[j]?
    by_cases hj : j < n * 3
    · have hjj : j = j / 3 * 3 + j % 3 := by omega
      have e1 := rcs_get (List.replicate n zPt) (j / 3) (j % 3) (by rw [List.length_replicate]; omega) (by omega)
      rw [← hjj] at e1
      rw [e1, List.getElem_replicate]
      unfold madeCells
      rw [Array.getElem?_map, Array.getElem?_range, if_pos hj]
      have h3 : j % 3 = 0 ∨ j % 3 = 1 ∨ j % 3 = 2 := by omega
      show some ((#[Value.bool false, .slice none 0 0, .slice none 0 0] : Array Value)[j % 3]!) = _
      rcases h3 with h3 | h3 | h3 <;> rw [h3] <;> rfl
    · rw [Array.getElem?_eq_none (by rw [size_madeCells]; omega), List.getElem?_eq_none (by rw [rcs_len, List.length_replicate]; omega)]
  unfold Vw
  rw [← e]
  exact h
end Nt

end Go.Proofs.YtgimmmmpollkhaaGreat

namespace Go.Proofs.YtgimmmmpollkhaaGreat

open Go.ChangeShapes Go.RowKit

namespace Nt
set_option maxRecDepth 100000
set_option linter.unusedSimpArgs false
set_option linter.unusedVariables false

abbrev Tells := Int → Bool × List Nat × List Nat
def oOk (o : Tells) (t : Int) : Bool := validQ (o t).1 (o t).2.1 (o t).2.2
def oq (o : Tells) (t : Int) : Rat := qmk (o t).1 (val (o t).2.1) (val (o t).2.2)
def valF (s : Rat) : List (Rat × Rat) → Option Rat
  | [] => some s
  | x :: l => if fitB (x.1 * x.2) = true then (if fitB (s + x.1 * x.2) = true then valF (s + x.1 * x.2) l else none) else none
def valL (o : Tells) (L : List (Rat × Int)) : List (Rat × Rat) := L.map fun x => (x.1, oq o x.2)
def VaO (w : World) : Option Rat → Ending → World → Prop
  | some q, e, w' => NewQ q 0 w e w'
  | none, e, w' => RNo 4 w e w'
theorem tell_ok {o : Tells} {t : Int} {r : Pt} (h : (r.s, r.xs, r.ys) = o t) : r.ok = oOk o t ∧ r.q = oq o t := by
  unfold oOk oq
  rw [← h]
  exact ⟨rfl, rfl⟩
structure Zx (w : World) (c : Pt) (A : Option Addr) (n k g : Nat) (vs : List Pt) (W : World) : Prop where
  b : Below w.heap.size w W
  x : C4 w.heap.size (.slice A n k) (.bool c.s) (.slice c.A c.xs.length c.a) (.slice c.B c.ys.length c.b) W
  r : Bk (w.heap.size + 1) zR 25 W
  vw : Vw g vs W
  va : ∀ v ∈ vs, v.At W
  ne : w.heap.size + 2 ≤ g
section

variable {w W W' : World} {c : Pt} {A : Option Addr} {n k g : Nat} {vs : List Pt}
theorem Zx.next (h : Zx w c A n k g vs W) (hb : Below W.heap.size W W') : Zx w c A n k g vs W' :=
  ⟨bl_trans h.b hb, h.x.next hb, h.r.next hb, h.vw.next hb, fun v hv => (h.va v hv).next hb, h.ne⟩
theorem Zx.set (h : Zx w c A n k g vs W) (i : Nat) (p : Pt) (hp : p.At W) :
    Zx w c A n k g (vs.set i p) (((W.setCell ⟨g, i * 3, none⟩ (.bool p.s)).setCell ⟨g, i * 3 + 1, none⟩ (.slice p.A p.xs.length p.a)).setCell ⟨g, i * 3 + 2, none⟩ (.slice p.B p.ys.length p.b)) := by
  have hO := off3v g i W (.bool p.s) (.slice p.A p.xs.length p.a) (.slice p.B p.ys.length p.b)
  have hne := h.ne
  refine ⟨h.b.trans (hO.below h.b.size (fun b hb => by simp at hb; omega)), h.x.off hO (by simp; omega), h.r.off hO (by simp; omega), h.vw.set i p, fun v hv => ?_, h.ne⟩
  rcases List.mem_or_eq_of_mem_set hv with hv | rfl
  · exact h.vw.at_ (h.va v hv) hO
  · exact h.vw.at_ hp hO
theorem Zx.far {gs : Nat} {cur : Array Value} {t : TypeId} (h : Zx w c A n k g vs W) (hB : Bk gs cur t W) (hno : ∀ v ∈ cur.toList, noU v = true) (hb : w.heap.size + 2 ≤ gs) (hn : gs ≠ g) (hO : Off [gs] W W') : Zx w c A n k g vs W' :=
  ⟨h.b.trans (hO.below h.b.size (fun b hb => by simp at hb; omega)), h.x.off hO (by simp; omega), h.r.off hO (by simp; omega), h.vw.off hO (by simpa using fun e => hn e.symm), fun v hv => ⟨hB.sl hno (h.va v hv).1 hO, hB.sl hno (h.va v hv).2 hO⟩, h.ne⟩
end
theorem Zx.start (w : World) (c : Pt) (A : Option Addr) (n k m : Nat) {W : World} (hb : Below (Cw w c A n k).heap.size (Cw w c A n k) W) : Zx w c A n k W.heap.size (List.replicate m zPt) (W.alloc (vz m)) := by
  have h := Cw.start w c A n k (bl_trans hb (bl_al (.refl _ _) (vz m)))
  have hsz : (Cw w c A n k).heap.size = w.heap.size + 2 := by simp [Cw]
  have hle := hb.size
  exact ⟨h.2.2, h.1, h.2.1, Vw.new m W, fun v hv => by rw [List.eq_of_mem_replicate hv]; exact zPt_at _, by omega⟩
theorem fn_nil (F : FuncId) (cs : Array Value) (W : World) : (binOp .eql 47 (.func (.func F) #[] cs) .nilFunc).run Tryz.prog W = .ok (.bool false) W := by kernel_rfl
theorem rno_done {w W : World} {g : Nat} (k : Nat) (hbw : Below w.heap.size w W) (hg : w.heap.size ≤ g) (a b c : Value) :
    RNo k w (.returned (.tuple #[.agg #[.bool false, .slice none 0 0, .slice none 0 0], .int .i64 (k : Int)])) (((W.setCell ⟨g, 0, none⟩ a).setCell ⟨g, 1, none⟩ b).setCell ⟨g, 2, none⟩ c) :=
  ⟨rfl, hbw.trans ((off3 g W a b c).below hbw.size (fun b hb => by simp at hb; omega))⟩

end Nt

end Go.Proofs.YtgimmmmpollkhaaGreat

namespace Go.Proofs.YtgimmmmpollkhaaGreat

open Go.ChangeShapes Go.RowKit

namespace Nt
set_option maxRecDepth 100000
set_option linter.unusedSimpArgs false
set_option linter.unusedVariables false

def cont (p : Pt) : Bool × List Nat × List Nat := (p.s, p.xs, p.ys)
theorem take_set_push {vs : List Pt} {i : Nat} (h : i < vs.length) (r : Pt) : (vs.set i r).take (i + 1) = vs.take i ++ [r] := by
  rw [take_part (by rw [List.length_set]; exact h), List.take_set_of_le (Nat.le_refl _)]
  congr 2
  exact List.getElem_set_self _
def VaR (w : World) (o : Tells) (L : List (Rat × Int)) (q : Rat) (e : Ending) (w' : World) : Prop := (L.all (fun x => oOk o x.2) = true ∧ VaO w (valF q (valL o L)) e w') ∨ (L.all (fun x => oOk o x.2) = false ∧ RNo 1 w e w')
theorem all_qt (o : Tells) (l : List Pt) : (l.map Pt.qt).all (fun x => oOk o x.2) = l.all fun p => oOk o p.t := by
  rw [List.all_map]
  rfl
structure Zi (o : Tells) (l vs : List Pt) (i : Nat) : Prop where
  c : (vs.take i).map cont = (l.take i).map fun p => o p.t
  ok : (l.take i).all (fun p => oOk o p.t) = true
  f : ∀ v ∈ vs.take i, v.Few
theorem Zi.push {o : Tells} {l vs : List Pt} {i : Nat} (h : Zi o l vs i) (hi : i < l.length) (hv : i < vs.length) (r : Pt) (hr : (r.s, r.xs, r.ys) = o l[i].t) (hf : r.Few) (hok : oOk o l[i].t = true) : Zi o l (vs.set i r) (i + 1) := by
  refine ⟨?_, ?_, fun v hv' => ?_⟩
  · rw [take_set_push hv, take_part hi, List.map_append, List.map_append, h.c, List.map_singleton, List.map_singleton]
    show _ ++ [(r.s, r.xs, r.ys)] = _
    rw [hr]
  · rw [take_part hi, List.all_append, h.ok]
    simp [hok]
  · rw [take_set_push hv] at hv'
    rcases List.mem_append.1 hv' with hv' | hv'
    · exact h.f v hv'
    · simp at hv'
      subst hv'
      exact hf
theorem Zi.get {o : Tells} {l vs : List Pt} {i j : Nat} (h : Zi o l vs i) (hj : j < i) (hl : j < l.length) (hv : j < vs.length) : vs[j].Ok ∧ vs[j].q = oq o l[j].t := by
  have h1 : ((vs.take i).map cont)[j]? = ((l.take i).map fun p => o p.t)[j]? := by rw [h.c]
  rw [List.getElem?_map, List.getElem?_map, List.getElem?_take, List.getElem?_take, if_pos hj, if_pos hj, List.getElem?_eq_getElem hv, List.getElem?_eq_getElem hl] at h1
  have h2 : (vs[j].s, vs[j].xs, vs[j].ys) = o l[j].t := Option.some.inj h1
  have hm : vs[j] ∈ vs.take i := List.mem_take_iff_getElem.2 ⟨j, by omega, rfl⟩
  have hm2 : l[j] ∈ l.take i := List.mem_take_iff_getElem.2 ⟨j, by omega, rfl⟩
  obtain ⟨h3, h4⟩ := tell_ok h2
  exact ⟨ok_of (h.f _ hm) (by rw [h3]; exact List.all_eq_true.1 h.ok _ hm2), h4⟩

theorem valF_step {s : Rat} {x : Rat × Rat} {L : List (Rat × Rat)} (h1 : fitB (x.1 * x.2) = true) (h2 : fitB (s + x.1 * x.2) = true) : valF s (x :: L) = valF (s + x.1 * x.2) L := by
  rw [valF, if_pos h1, if_pos h2]
theorem valF_no1 {s : Rat} {x : Rat × Rat} {L : List (Rat × Rat)} (h1 : fitB (x.1 * x.2) = false) : valF s (x :: L) = none := by
  rw [valF, if_neg (by rw [h1]; decide)]
theorem valF_no2 {s : Rat} {x : Rat × Rat} {L : List (Rat × Rat)} (h1 : fitB (x.1 * x.2) = true) (h2 : fitB (s + x.1 * x.2) = false) : valF s (x :: L) = none := by
  rw [valF, if_pos h1, if_neg (by rw [h2]; decide)]
structure Zy (w : World) (c : Pt) (A : Option Addr) (n k g : Nat) (vs : List Pt) (gs : Nat) (s : Pt) (W : World) : Prop where
  zx : Zx w c A n k g vs W
  sb : Bk gs #[.bool s.s, .slice s.A s.xs.length s.a, .slice s.B s.ys.length s.b] 25 W
  sa : s.At W
  hg : w.heap.size + 2 ≤ gs ∧ gs ≠ g
section

variable {w W W' : World} {c s : Pt} {A : Option Addr} {n k g gs : Nat} {vs : List Pt}
theorem Zy.next (h : Zy w c A n k g vs gs s W) (hb : Below W.heap.size W W') : Zy w c A n k g vs gs s W' := ⟨h.zx.next hb, h.sb.next hb, h.sa.next hb, h.hg⟩
theorem Zy.far {b : Nat} {cur : Array Value} {t : TypeId} (h : Zy w c A n k g vs gs s W) (hB : Bk b cur t W) (hno : ∀ v ∈ cur.toList, noU v = true) (hb : w.heap.size + 2 ≤ b) (h1 : b ≠ g) (h2 : b ≠ gs) (hO : Off [b] W W') : Zy w c A n k g vs gs s W' :=
  ⟨h.zx.far hB hno hb h1 hO, h.sb.off hO (by simpa using fun e => h2 e.symm), ⟨hB.sl hno h.sa.1 hO, hB.sl hno h.sa.2 hO⟩, h.hg⟩
theorem box_noU (s : Pt) : ∀ v ∈ (#[.bool s.s, .slice s.A s.xs.length s.a, .slice s.B s.ys.length s.b] : Array Value).toList, noU v = true := by
  intro v hv
  simp at hv
  rcases hv with rfl | rfl | rfl <;> rfl
theorem Zy.put (h : Zy w c A n k g vs gs s W) (r : Pt) (hr : r.At W) : Zy w c A n k g vs gs r (((W.setCell ⟨gs, 0, none⟩ (.bool r.s)).setCell ⟨gs, 1, none⟩ (.slice r.A r.xs.length r.a)).setCell ⟨gs, 2, none⟩ (.slice r.B r.ys.length r.b)) := by
  have hO := off3 gs W (.bool r.s) (.slice r.A r.xs.length r.a) (.slice r.B r.ys.length r.b)
  have hsb := h.sb
  refine ⟨h.zx.far h.sb (box_noU s) h.hg.1 h.hg.2 hO, ?_, ⟨h.sb.sl (box_noU s) hr.1 hO, h.sb.sl (box_noU s) hr.2 hO⟩, h.hg⟩
  have h1 := hsb.set (j := 0) (cur' := #[.bool r.s, .slice s.A s.xs.length s.a, .slice s.B s.ys.length s.b]) (.bool r.s) rfl
  have h2 := h1.set (j := 1) (cur' := #[.bool r.s, .slice r.A r.xs.length r.a, .slice s.B s.ys.length s.b]) (.slice r.A r.xs.length r.a) rfl
  exact h2.set (j := 2) (cur' := #[.bool r.s, .slice r.A r.xs.length r.a, .slice r.B r.ys.length r.b]) (.slice r.B r.ys.length r.b) rfl
end

set_option maxHeartbeats 8000000 in
theorem value_ok (A : Option Addr) (l : List Pt) (k : Nat) (c : Pt) (F : FuncId) (cs : Array Value) (o : Tells) (w : World) (hl : Pl w A l) (hc : c.At w) (fl : ∀ p ∈ l, p.Ok) (fc : c.Ok) (hv : pvB (-1) l = true) (hn : l.length ≤ 1000)
    (hT : ∀ p ∈ l, ∀ W, Below w.heap.size w W → Calls Tryz.prog 66 #[.func (.func F) #[] cs, .int .i64 p.t] W (TellO o p.t W)) :
    Calls Tryz.prog 18 #[polyV A l.length k c, .func (.func F) #[] cs] w (VaR w o (l.map Pt.qt) c.q) := by
  have hV := hide (fun W (b : Below w.heap.size w W) => lvalid_any A l k c W (hl.next b) (hc.next b) (fun p hp => (fl p hp).few) fc.few hn true (by rw [hv, fc.valid]; rfl))
  have hK := hide (fun (r : Pt) W (a : r.At W) (f : r.Few) => validQ_any r.s r.A r.B r.a r.b r.xs r.ys W a.1 a.2 f.lx f.ly f.mx f.my r.ok rfl)
  have hCp := hide (fun W (b : Below w.heap.size w W) => copied_p fc W (hc.next b))
  have hP := hide (fun W (b : Below w.heap.size w W) => Pl.next hl b)
  obtain ⟨n, hnn⟩ : ∃ n, n = l.length := ⟨_, rfl⟩
  have hst := hide (fun W (b : Below (Cw w c A n k).heap.size (Cw w c A n k) W) => And.intro (Cw.start w c A n k b) (Zx.start w c A n k n b))
  have hb0 : Below w.heap.size w (Cw w c A n k) := bl_al (bl_al (.refl _ _) _) _
  have hbz := hide (hst.out _ (Below.refl _ _))
  have hmk := make_rats n (by omega)
  replace hT := hide hT; replace fl := hide fl
  clear hl hc fc hv
  unfold polyV rv at *
  unfold Cw zR at hb0 hst hbz
  rw [← hnn] at hV ⊢
  have hn1 : n ≤ 1000 := by omega
  replace hst := hide hst.out
  replace hb0 := hide hb0
  replace hnn := hide hnn
  generalize hi1 : c.xs.length = i1 at *
  generalize hi2 : c.ys.length = i2 at *
  replace hi1 := hide hi1; replace hi2 := hide hi2
  obtain ⟨⟨⟨x0, x1, x2, x3⟩, _⟩, _⟩ := hbz.out
  have hfn := fn_nil F cs
  have hfin := hide (fun W (b : Below w.heap.size w W) x0 x1 x2 => rno_done (g := w.heap.size + 1) 1 b (by omega) x0 x1 x2)
  go_enter Tryz.func18, Tryz.ntmps18
  go_wp2_with (first
    | (go_at_call 25; (with_reducible refine (hV.out _ hb0.out).mono ?_); rintro e w2 ⟨rfl, hb2⟩; clear x0 x1 x2 x3; obtain ⟨⟨⟨x0, x1, x2, x3⟩, _⟩, hZ⟩ := hst.out w2 hb2; obtain ⟨x0', x1', x2', x3'⟩ := hZ.x; replace hZ := hide hZ; clear hb2)
    | fail)
  clear x0 x1 x2 x3 x0' x1' x2' x3' hmk
  generalize w2.heap.size = g at *
  go_loopw [29] (fun ix wr => ∃ (i : Nat) (vs : List Pt), i ≤ n ∧ ix = .int .i64 (i : Int) ∧ vs.length = n ∧ Zx w c A n k g vs wr ∧ Zi o l vs i) (fun ix _ => n - (intOf ix).toNat)
  case atStart => exact ⟨0, _, Nat.zero_le _, rfl, List.length_replicate, hZ.out, ⟨rfl, rfl, fun v hv => by simp at hv⟩⟩
  case round =>
    obtain ⟨i, vs, hi, rfl, hvl, hX, hzi⟩ := hrel
    have hX' := hX
    obtain ⟨hbw, ⟨x0, x1, x2, x3⟩, hR, _, _, hge⟩ := hX'
    rw [hi1.out] at x2
    rw [hi2.out] at x3
    by_cases hlt : i < n
    · have hil : i < l.length := by rw [← hnn.out]; exact hlt
      have hiv : i < vs.length := by rw [hvl]; exact hlt
      obtain ⟨g1, o1, rfl, ⟨c0, c1, c2, c3⟩, _⟩ := (hP.out wr hbw).get hil
      have hb1 : Below wr.heap.size wr (wr.alloc (.cells #[.bool l[i].s, .slice l[i].A l[i].xs.length l[i].a, .slice l[i].B l[i].ys.length l[i].b, .int .i64 l[i].t] 83)) := bl_al (.refl _ _) _
      have hT1 := hide (hT.out l[i] (List.getElem_mem hil) _ (bl_trans hbw hb1))
      have hX1 := hide (hX.next hb1)
      have hzp := hide (fun (r : Pt) h1 h2 h3 => hzi.push hil hiv r h1 h2 h3)
      have hfl : oOk o l[i].t = false → (l.map Pt.qt).all (fun x => oOk o x.2) = false := fun h => by
        rw [all_qt, List.all_eq_false]
        exact ⟨l[i], List.getElem_mem hil, by rw [h]; simp⟩
      replace hfl := hide hfl
      have hlt' : (i : Int) < (n : Int) := by omega
      clear hX hzi hR hZ hst hV hP hT
      generalize l[i] = p at *
      generalize p.xs.length = j1 at *
      generalize p.ys.length = j2 at *
      obtain ⟨vb, hvb⟩ : ∃ vb, oOk o p.t = vb := ⟨_, rfl⟩
      cases vb with
      | false =>
        go_wp2_with (first
          | (go_at_call 66; (with_reducible refine hT1.out.mono ?_); rintro e wa ⟨r, rfl, hro, har, hrf, hb3⟩; have hX2 := hX1.out.next hb3; have hv0 := hX2.vw.free (i * 3); have hv1 := hX2.vw.free (i * 3 + 1); have hv2 := hX2.vw.free (i * 3 + 2); obtain ⟨d0, d1, d2⟩ := hX2.vw.cell hiv; have hX3 := hide (hX2.set i r har); replace hX2 := hide hX2; have hK1 := hK.out r _ (hX3.out.va r (List.mem_set hiv r)) hrf; rw [(tell_ok hro).1, hvb] at hK1; replace hK1 := hide hK1; clear har hrf hb3 hro)
          | (go_at_call 56; (with_reducible refine hK1.out.mono ?_); rintro e wb ⟨rfl, hb4⟩; have hX4 := hX3.out.next hb4; have r0 := hX4.r.cell (j := 0) rfl; have r1 := hX4.r.cell (j := 1) rfl; have r2 := hX4.r.cell (j := 2) rfl; have s0 := hX4.r.free 0; have s1 := hX4.r.free 1; have s2 := hX4.r.free 2; replace hX4 := hide hX4.b; clear hb4)
          | fail)
        exact bodyPost_ret (v := .tuple #[.agg #[.bool false, .slice none 0 0, .slice none 0 0], .int .i64 1]) (by simp [results, Tryz.results18, go_sem, r0, r1, r2]) rfl (Or.inr ⟨hfl.out hvb, hfin.out _ hX4.out _ _ _⟩)
      | true =>
        go_wp2_with (first
          | (go_at_call 66; (with_reducible refine hT1.out.mono ?_); rintro e wa ⟨r, rfl, hro, har, hrf, hb3⟩; have hX2 := hX1.out.next hb3; have hv0 := hX2.vw.free (i * 3); have hv1 := hX2.vw.free (i * 3 + 1); have hv2 := hX2.vw.free (i * 3 + 2); obtain ⟨d0, d1, d2⟩ := hX2.vw.cell hiv; have hX3 := hide (hX2.set i r har); replace hX2 := hide hX2; have hK1 := hK.out r _ (hX3.out.va r (List.mem_set hiv r)) hrf; rw [(tell_ok hro).1, hvb] at hK1; replace hK1 := hide hK1; clear har hb3; replace hro := hide hro; replace hrf := hide hrf)
          | (go_at_call 56; (with_reducible refine hK1.out.mono ?_); rintro e wb ⟨rfl, hb4⟩; have hX4 := hide (hX3.out.next hb4); clear hb4)
          | fail)
        go_roundw
        case rel => exact ⟨i + 1, vs.set i r, hlt, by go_num, by rw [List.length_set]; exact hvl, hX4.out, hzp.out r hro.out hrf.out hvb⟩
        case measure => simp only [intOf]; omega
    · have hmi : i = n := by omega
      subst hmi
      have hall : (l.map Pt.qt).all (fun x => oOk o x.2) = true := by
        rw [all_qt]
        have := hzi.ok
        rwa [hnn.out, List.take_length] at this
      have hCp := hide (hCp.out wr hbw)
      replace hzi := hide hzi; replace hX := hide hX; replace hall := hide hall
      clear hT hR hst hZ hV hb0
      go_wp2_with (first
        | (go_at_call 54; (with_reducible refine hCp.out.mono ?_); rintro e wa ⟨s, rfl, hsq, hsk, hsa, hb3⟩; have hXa := hX.out.next hb3; have hY : Zy w c A i k g vs wa.heap.size s (wa.alloc (.cells #[.bool s.s, .slice s.A s.xs.length s.a, .slice s.B s.ys.length s.b] 25)) := ⟨hXa.next (bl_al (.refl _ _) _), Bk.new _ _ wa, hsa.next (bl_al (.refl _ _) _), by have h1 := hXa.r.lt; have h2 := hXa.vw.lt; omega⟩; clear x0 x1 x2 x3; obtain ⟨x0, x1, x2, x3⟩ := hY.zx.x; rw [hi1.out] at x2; rw [hi2.out] at x3; replace hY := hide hY; clear hXa hsa hb3)
        | fail)
      clear x0 x1 x2 x3
      generalize wa.heap.size = gs at *
      have hgs := hY.out.hg
      go_loopw [55] (fun ix wr => ∃ (j : Nat) (s : Pt), j ≤ i ∧ ix = .int .i64 (j : Int) ∧ Zy w c A i k g vs gs s wr ∧ s.Ok ∧ valF c.q (valL o (l.map Pt.qt)) = valF s.q (valL o ((l.drop j).map Pt.qt))) (fun ix _ => i - (intOf ix).toNat)
      case atStart => exact ⟨0, s, Nat.zero_le _, rfl, hY.out, hsk, by rw [hsq]; rfl⟩
      case round =>
      clear hsq hsk
      replace hY := hide True.intro
      obtain ⟨j, s, hj, rfl, hY, hsk, hval⟩ := hrel
      obtain ⟨x0, x1, x2, x3⟩ := hY.zx.x
      rw [hi1.out] at x2
      rw [hi2.out] at x3
      by_cases hlt : j < i
      · have hjl : j < l.length := by rw [← hnn.out]; exact hlt
        have hjv : j < vs.length := by rw [hvl]; exact hlt
        obtain ⟨hvk, hvq⟩ := hzi.out.get hlt hjl hjv
        obtain ⟨g1, o1, rfl, ⟨c0, c1, c2, c3⟩, hpat⟩ := (hP.out wr hY.zx.b).get hjl
        have hpk := fl.out l[j] (List.getElem_mem hjl)
        have hvat := hY.zx.va vs[j] (List.getElem_mem hjv)
        have hdrop : valL o ((l.drop j).map Pt.qt) = (l[j].q, oq o l[j].t) :: valL o ((l.drop (j + 1)).map Pt.qt) := by
          rw [List.drop_eq_getElem_cons hjl]
          rfl
        rw [hdrop, ← hvq] at hval
        have hlt' : (j : Int) < (i : Int) := by omega
        have hX1 := hide (hY.next (bl_al (.refl _ _) (.cells #[.bool l[j].s, .slice l[j].A l[j].xs.length l[j].a, .slice l[j].B l[j].ys.length l[j].b, .int .i64 l[j].t] 83)))
        have hvc := hide (hX1.out.zx.vw.cell hjv)
        have hXp := hide (C4.new (.bool l[j].s) (.slice l[j].A l[j].xs.length l[j].a) (.slice l[j].B l[j].ys.length l[j].b) (.int .i64 l[j].t) 83 wr)
        have hMul := hide (fun (h : fitB (l[j].q * vs[j].q) = true) W (b : Below wr.heap.size wr W) => mul_p hpk hvk W (hpat.next b) (hvat.next b) h)
        have hMno := hide (fun (h : fitB (l[j].q * vs[j].q) = false) W (b : Below wr.heap.size wr W) => mul_n hpk hvk W (hpat.next b) (hvat.next b) h)
        unfold rv at hMul hMno
        have hgl := hY.zx.vw.lt
        have hsl := hY.sb.lt
        have hne := hY.zx.ne
        clear hdrop hvq hvk hpk hvat hpat hP hzi hY hCp
        generalize l[j] = p at *
        generalize vs[j] = v at *
        generalize hj1 : p.xs.length = j1 at *
        generalize hj2 : p.ys.length = j2 at *
        generalize hv1 : v.xs.length = v1 at *
        generalize hv2 : v.ys.length = v2 at *
        clear hj1 hj2 hv1 hv2
        go_wp2_with fail
        have hw1 : (wr.alloc (.cells #[.bool p.s, .slice p.A j1 p.a, .slice p.B j2 p.b, .int .i64 p.t] 83)).heap.size = wr.heap.size + 1 := by simp
        have hb1 : Below wr.heap.size wr (wr.alloc (.cells #[.bool p.s, .slice p.A j1 p.a, .slice p.B j2 p.b, .int .i64 p.t] 83)) := bl_al (.refl _ _) _
        generalize wr.alloc (.cells #[.bool p.s, .slice p.A j1 p.a, .slice p.B j2 p.b, .int .i64 p.t] 83) = w1 at *
        have dn : ∀ u : World, Below u.heap.size u u.drew := fun u => ((Off.refl [] u).drew).below (Nat.le_refl _) (by simp)
        have bd1 : Below w1.heap.size w1 w1.drew := dn _
        have ka : Below w1.heap.size w1 ((w1.alloc (.cells #[.bool false, .slice none 0 0, .slice none 0 0] 25)).drew) := bl_trans (bl_al (.refl _ _) _) (dn _)
        have hS6 := hide (fun W (b : Below w1.heap.size w1 W) => And.intro (And.intro (hXp.out.next b).1 (And.intro (hXp.out.next b).2.1 (hXp.out.next b).2.2.1)) (And.intro (cell_next b hvc.out.1) (And.intro (cell_next b hvc.out.2.1) (cell_next b hvc.out.2.2))))
        have hYd := hide (hX1.out.next bd1)
        have hYk := hide (hX1.out.next ka)
        have hQ1 := hide (Q3.next (Q3.new (.bool false) (.slice none 0 0) (.slice none 0 0) w1) (dn _))
        have hZ1 := hide (Bk.next (Bk.new zR 25 w1) (dn _))
        unfold zR at hZ1
        rw [hw1] at hQ1 hZ1
        clear hXp hvc x0 x1 x2 x3 c0 c1 c2 c3
        obtain ⟨f1, hf1⟩ : ∃ f, fitB (p.q * v.q) = f := ⟨_, rfl⟩
        cases f1 with
        | false =>
          replace hMul := hide (fun W (b : Below w1.heap.size w1 W) => hMno.out hf1 W (bl_trans hb1 b))
          have hvn : valF c.q (valL o (l.map Pt.qt)) = none := by rw [hval]; exact valF_no1 hf1
          clear hMno hval hX1
          go_cut [12, 13] (fun s12 s13 wx => ∃ (gb : Nat) (by_ : Pt), s12 = .pointer (some ⟨gb, 0, none⟩) ∧ s13 = .int .i64 4 ∧ C3 gb (.bool by_.s) (.slice by_.A by_.xs.length by_.a) (.slice by_.B by_.ys.length by_.b) wx ∧ True ∧ Zy w c (some ⟨g1, o1, none⟩) i k g vs gs s wx)
          case first =>
            go_region_held3 (fun W => (W.cell? ⟨wr.heap.size, 0, none⟩ = some (.bool p.s) ∧ W.cell? ⟨wr.heap.size, 1, none⟩ = some (.slice p.A j1 p.a) ∧ W.cell? ⟨wr.heap.size, 2, none⟩ = some (.slice p.B j2 p.b)) ∧ W.cell? ⟨g, j * 3, none⟩ = some (.bool v.s) ∧ W.cell? ⟨g, j * 3 + 1, none⟩ = some (.slice v.A v1 v.a) ∧ W.cell? ⟨g, j * 3 + 2, none⟩ = some (.slice v.B v2 v.b))
              (first | (with_reducible exact hS6.out _ bd1) | (with_reducible exact hS6.out _ ka) | (with_reducible exact hS6.out _ bd2) | (with_reducible exact hS6.out _ (bl_al bd2 _)) | exact hS6.out _ (bd2.trans ((off3 _ _ _ _ _).below bd2.size (fun b hb => by simp at hb; omega))) | fail)
              (first
                | (go_at_call 67; (with_reducible refine (hMul.out _ bd1).mono ?_); rintro e wa2 ⟨rfl, hb3⟩; have bd2 := bl_trans bd1 hb3; have hY2 := hide (hYd.out.next hb3))
                | (go_at_call 67; (with_reducible refine (hMul.out _ ka).mono ?_); rintro e wa2 ⟨rfl, hb3⟩; have bd2 := bl_trans ka hb3; have hY2 := hide (hYk.out.next hb3); obtain ⟨v1', v2', v3', v4', v5', v6'⟩ := hQ1.out.next hb3; have hZ2 := hide (hZ1.out.next hb3))
                | fail)
            all_goals
              go_wp2_with fail
              go_meet
              first
                | with_reducible refine ⟨wa2.heap.size, zPt, rfl, rfl, ?_⟩
                  exact ⟨C3.of (Bk.new _ _ wa2), trivial, hY2.out.next (bl_al (.refl _ _) _)⟩
                | with_reducible refine ⟨wr.heap.size + 1, zPt, rfl, rfl, ?_⟩
                  exact ⟨c3_set hZ2.out _ _ _, trivial, hY2.out.far hZ2.out zR_no (by omega) (by omega) (by omega) (off3 _ _ _ _ _)⟩
                | fail
          case rest =>
            obtain ⟨gb, by_, rfl, rfl, hcb, _, hYc⟩ := hcut
            have r0 := hYc.zx.r.cell (j := 0) rfl
            have r1 := hYc.zx.r.cell (j := 1) rfl
            have r2 := hYc.zx.r.cell (j := 2) rfl
            have s0 := hYc.zx.r.free 0
            have s1 := hYc.zx.r.free 1
            have s2 := hYc.zx.r.free 2
            have hbw := hide hYc.zx.b
            clear hcb hYc bd1 ka dn hS6 hYd hYk hQ1 hZ1 hMul
            replace hvn := hide hvn
            have hfin4 := hide (fun W (b : Below w.heap.size w W) x0 x1 x2 => rno_done (g := w.heap.size + 1) 4 b (by omega) x0 x1 x2)
            go_wp2_with fail
            exact bodyPost_ret (v := .tuple #[.agg #[.bool false, .slice none 0 0, .slice none 0 0], .int .i64 4]) (by simp [results, Tryz.results18, go_sem, r0, r1, r2]) rfl (Or.inl ⟨hall.out, by rw [hvn.out]; exact hfin4.out _ hbw.out _ _ _⟩)
        | true =>
          replace hMul := hide (fun W (b : Below w1.heap.size w1 W) => hMul.out hf1 W (bl_trans hb1 b))
          clear hMno hX1
          go_cut [12, 13] (fun s12 s13 wx => ∃ (gb : Nat) (by_ : Pt), s12 = .pointer (some ⟨gb, 0, none⟩) ∧ s13 = .int .i64 0 ∧ C3 gb (.bool by_.s) (.slice by_.A by_.xs.length by_.a) (.slice by_.B by_.ys.length by_.b) wx ∧ by_.q = p.q * v.q ∧ by_.Ok ∧ by_.At wx ∧ Zy w c (some ⟨g1, o1, none⟩) i k g vs gs s wx)
          case first =>
            go_region_held3 (fun W => (W.cell? ⟨wr.heap.size, 0, none⟩ = some (.bool p.s) ∧ W.cell? ⟨wr.heap.size, 1, none⟩ = some (.slice p.A j1 p.a) ∧ W.cell? ⟨wr.heap.size, 2, none⟩ = some (.slice p.B j2 p.b)) ∧ W.cell? ⟨g, j * 3, none⟩ = some (.bool v.s) ∧ W.cell? ⟨g, j * 3 + 1, none⟩ = some (.slice v.A v1 v.a) ∧ W.cell? ⟨g, j * 3 + 2, none⟩ = some (.slice v.B v2 v.b))
              (first | (with_reducible exact hS6.out _ bd1) | (with_reducible exact hS6.out _ ka) | (with_reducible exact hS6.out _ bd2) | (with_reducible exact hS6.out _ (bl_al bd2 _)) | exact hS6.out _ (bd2.trans ((off3 _ _ _ _ _).below bd2.size (fun b hb => by simp at hb; omega))) | fail)
              (first
                | (go_at_call 67; (with_reducible refine (hMul.out _ bd1).mono ?_); rintro e wa2 ⟨by_, rfl, hbq, _, hbk, hba, hb3⟩; have bd2 := bl_trans bd1 hb3; have hY2 := hide (hYd.out.next hb3))
                | (go_at_call 67; (with_reducible refine (hMul.out _ ka).mono ?_); rintro e wa2 ⟨by_, rfl, hbq, _, hbk, hba, hb3⟩; have bd2 := bl_trans ka hb3; have hY2 := hide (hYk.out.next hb3); obtain ⟨v1', v2', v3', v4', v5', v6'⟩ := hQ1.out.next hb3; have hZ2 := hide (hZ1.out.next hb3))
                | fail)
            all_goals
              go_wp2_with fail
              go_meet
              first
                | with_reducible refine ⟨wa2.heap.size, by_, rfl, rfl, ?_⟩
                  exact ⟨C3.of (Bk.new _ _ wa2), hbq, hbk, hba.next (bl_al (.refl _ _) _), hY2.out.next (bl_al (.refl _ _) _)⟩
                | with_reducible refine ⟨wr.heap.size + 1, by_, rfl, rfl, ?_⟩
                  exact ⟨c3_set hZ2.out _ _ _, hbq, hbk, at_offR hZ2.out hba (off3 _ _ _ _ _), hY2.out.far hZ2.out zR_no (by omega) (by omega) (by omega) (off3 _ _ _ _ _)⟩
                | fail
          case rest =>
            obtain ⟨gb, by_, rfl, rfl, ⟨b0, b1, b2⟩, hbq, hbk, hba, hYc⟩ := hcut
            obtain ⟨f2, hf2⟩ : ∃ f, fitB (s.q + p.q * v.q) = f := ⟨_, rfl⟩
            have y0 := hYc.sb.cell (j := 0) rfl
            have y1 := hYc.sb.cell (j := 1) rfl
            have y2 := hYc.sb.cell (j := 2) rfl
            clear bd1 ka dn hS6 hYd hYk hQ1 hZ1 hMul
            have u0 := hYc.sb.free 0
            have u1 := hYc.sb.free 1
            have u2 := hYc.sb.free 2
            replace hYc := hide hYc
            cases f2 with
            | false =>
              have hA := hide (show Calls Tryz.prog 68 #[rv s, rv by_] wc (RNo 4 wc) from add_n hsk hbk wc hYc.out.sa hba (by rw [hbq]; exact hf2))
              have hvn : valF c.q (valL o (l.map Pt.qt)) = none := by rw [hval]; exact valF_no2 hf1 hf2
              unfold rv at hA
              have hfin4 := hide (fun W (b : Below w.heap.size w W) x0 x1 x2 => rno_done (g := w.heap.size + 1) 4 b (by omega) x0 x1 x2)
              replace hvn := hide hvn
              clear hval
              go_wp2_with (first
                | (go_at_call 68; (with_reducible refine hA.out.mono ?_); rintro e wd ⟨rfl, hb3⟩; have hYe := hYc.out.next hb3; have hYf := (show Zy w c (some ⟨g1, o1, none⟩) i k g vs gs zPt (((wd.setCell ⟨gs, 0, none⟩ (.bool false)).setCell ⟨gs, 1, none⟩ (.slice none 0 0)).setCell ⟨gs, 2, none⟩ (.slice none 0 0)) from hYe.put zPt (zPt_at _)); clear u0 u1 u2; have u0 := hYe.sb.free 0; have u1 := hYe.sb.free 1; have u2 := hYe.sb.free 2; have y0 := hYe.sb.cell (j := 0) rfl; have y1 := hYe.sb.cell (j := 1) rfl; have y2 := hYe.sb.cell (j := 2) rfl; have r0 := hYf.zx.r.cell (j := 0) rfl; have r1 := hYf.zx.r.cell (j := 1) rfl; have r2 := hYf.zx.r.cell (j := 2) rfl; have s0 := hYf.zx.r.free 0; have s1 := hYf.zx.r.free 1; have s2 := hYf.zx.r.free 2; replace hYe := hide hYe; replace hYf := hide hYf.zx.b; clear hb3)
                | fail)
              exact bodyPost_ret (v := .tuple #[.agg #[.bool false, .slice none 0 0, .slice none 0 0], .int .i64 4]) (by simp [results, Tryz.results18, go_sem, r0, r1, r2]) rfl (Or.inl ⟨hall.out, by rw [hvn.out]; exact hfin4.out _ hYf.out _ _ _⟩)
            | true =>
              have hA := hide (show Calls Tryz.prog 68 #[rv s, rv by_] wc (NewQ (s.q + by_.q) s.t wc) from add_p hsk hbk wc hYc.out.sa hba (by rw [hbq]; exact hf2))
              unfold rv at hA
              rw [hbq] at hA
              have hvs : valF c.q (valL o (l.map Pt.qt)) = valF (s.q + p.q * v.q) (valL o ((l.drop (j + 1)).map Pt.qt)) := by rw [hval]; exact valF_step hf1 hf2
              replace hvs := hide hvs
              clear hval
              go_wp2_with (first
                | (go_at_call 68; (with_reducible refine hA.out.mono ?_); rintro e wd ⟨r, rfl, hrq, _, hrk, hra, hb3⟩; have hYe := hYc.out.next hb3; have hYf := hide (hYe.put r hra); clear u0 u1 u2; have u0 := hYe.sb.free 0; have u1 := hYe.sb.free 1; have u2 := hYe.sb.free 2; have y0 := hYe.sb.cell (j := 0) rfl; have y1 := hYe.sb.cell (j := 1) rfl; have y2 := hYe.sb.cell (j := 2) rfl; replace hYe := hide hYe; replace hrq := hide hrq; replace hrk := hide hrk; clear hra hb3)
                | fail)
              go_roundw
              case rel => exact ⟨j + 1, r, hlt, by go_num, hYf.out, hrk.out, by rw [hvs.out, hrq.out]⟩
              case measure => simp only [intOf]; omega
      · have hji : j = i := by omega
        subst hji
        have hvs : valF c.q (valL o (l.map Pt.qt)) = some s.q := by
          rw [hval, hnn.out, List.drop_length]
          rfl
        have y0 := hY.sb.cell (j := 0) rfl
        have y1 := hY.sb.cell (j := 1) rfl
        have y2 := hY.sb.cell (j := 2) rfl
        have r0 := hY.zx.r.cell (j := 0) rfl
        have r1 := hY.zx.r.cell (j := 1) rfl
        have r2 := hY.zx.r.cell (j := 2) rfl
        have s0 := hY.zx.r.free 0
        have s1 := hY.zx.r.free 1
        have s2 := hY.zx.r.free 2
        have hO := off3 (w.heap.size + 1) wr (.bool s.s) (.slice s.A s.xs.length s.a) (.slice s.B s.ys.length s.b)
        have hfin := hide (And.intro (at_offR hY.zx.r hY.sa hO) (hY.zx.b.trans (hO.below hY.zx.b.size (fun b hb => by simp at hb; omega))))
        clear hO hval
        replace hvs := hide hvs; replace hY := hide True.intro; replace hsk := hide hsk
        go_wp2_with fail
        exact bodyPost_ret (v := .tuple #[.agg #[.bool s.s, .slice s.A s.xs.length s.a, .slice s.B s.ys.length s.b], .int .i64 0]) (by simp [results, Tryz.results18, go_sem, r0, r1, r2]) rfl (Or.inl ⟨hall.out, by rw [hvs.out]; exact ⟨{ s with t := 0 }, rfl, rfl, rfl, ⟨hsk.out.s, hsk.out.x, hsk.out.y, hsk.out.f⟩, hfin.out.1, hfin.out.2⟩⟩)
end Nt

end Go.Proofs.YtgimmmmpollkhaaGreat

namespace Go.Proofs.YtgimmmmpollkhaaGreat

open Go.ChangeShapes Go.RowKit

namespace Nt
set_option maxRecDepth 100000
set_option linter.unusedSimpArgs false
set_option linter.unusedVariables false

theorem int_ln {n : Int} (h1 : -9223372036854775808 ≤ n) (h2 : n ≤ 9223372036854775807) : ln n.natAbs ≤ 64 := Nat.le_trans (ln_le (k := 1) (by rw [Nat.pow_one, LB_eq]; omega)) (by decide)
set_option maxRecDepth 100000 in
set_option maxHeartbeats 4000000 in
theorem rof_q (n d : Int) (q : Rat) (w : World) (n1 : -9223372036854775808 ≤ n) (n2 : n ≤ 9223372036854775807) (d1 : -9223372036854775808 ≤ d) (d2 : d ≤ 9223372036854775807) (d0 : d ≠ 0) (hq' : qmk (isg n != isg d) n.natAbs d.natAbs = q) : Calls Tryz.prog 31 #[.int .i64 n, .int .i64 d] w (RQ w q) := by
  have R0 := hide (fun W (_ : Below w.heap.size w W) => rof_z n W n1 n2)
  have R1 := hide (fun W (_ : Below w.heap.size w W) => rof_z d W d1 d2)
  have NW := hide (fun X Y e g W (_ : Below w.heap.size w W) s1 s2 => rnew_q n d X Y e g q W s1 s2 (int_ln n1 n2) (int_ln d1 d2) d0 hq')
  clear hq' n1 n2 d1 d2
  generalize isg n = s0 at *
  generalize isg d = s1 at *
  generalize n.natAbs = k0 at *
  generalize d.natAbs = k1 at *
  have X3 := hide (Q3.new (.bool false) (.slice none 0 0) (.slice none 0 0) w)
  have kb := hide (bl_al (.refl w.heap.size w) (.cells #[.bool false, .slice none 0 0, .slice none 0 0] 25))
  have oe : binOp .eql 3 (.int .i64 d) (.int .i64 0) = pure (.bool false) := by
    show pure (Value.bool (d == 0)) = _
    rw [beq_eq_false_iff_ne.2 d0]
  have oe' : (d == 0) = false := beq_eq_false_iff_ne.2 d0
  clear d0
  go_enter Tryz.func31, Tryz.ntmps31
  go_wp2_with (first
    | (go_at_call 80; (with_reducible refine (R0.out _ kb.out).mono ?_); rintro e v1 ⟨P1, p1, rfl, z1, hb⟩; have X3 := hide (X3.out.next hb); have kb := hide (bl_trans kb.out hb))
    | (go_at_call 80; (with_reducible refine (R1.out _ kb.out).mono ?_); rintro e v2 ⟨P2, p2, rfl, z2, hb⟩; have X3 := hide (X3.out.next hb); have kb := hide (bl_trans kb.out hb); have z1 := kp' hb z1)
    | (go_at_call 79; (with_reducible refine (NW.out P1 P2 p1 p2 _ kb.out z1 z2).mono ?_); rintro e w3 ⟨A3, c3, B3, d3, rfl, s3, t3, hb⟩; have X3 := hide (X3.out.next hb); have kb := hide (bl_trans kb.out hb); obtain ⟨u1, u2, u3, u4, u5, u6⟩ := X3.out.al (.cells #[.bool (qs q), .slice A3 (ln (qn q)) c3, .slice B3 (ln (qd q)) d3] 25); obtain ⟨y1, y2, y3, y4, y5, y6⟩ := Q3.new (.bool (qs q)) (.slice A3 (ln (qn q)) c3) (.slice B3 (ln (qd q)) d3) w3; have lx := X3.out.lt; have XA := X3; have ne1 : (⟨w.heap.size, 0, none⟩ : Addr) ≠ ⟨w.heap.size, 1, none⟩ := (by intro e; injection e with _ e2 _; exact absurd e2 (by decide)); have ne2 : (⟨w.heap.size, 0, none⟩ : Addr) ≠ ⟨w.heap.size, 2, none⟩ := (by intro e; injection e with _ e2 _; exact absurd e2 (by decide)); have ne3 : (⟨w.heap.size, 1, none⟩ : Addr) ≠ ⟨w.heap.size, 2, none⟩ := (by intro e; injection e with _ e2 _; exact absurd e2 (by decide)); have h1 : (w3.setCell ⟨w.heap.size, 0, none⟩ (.bool (qs q))).cell? ⟨w.heap.size, 1, none⟩ = some (.slice none 0 0) := (by rw [World.cell?_setCell_other _ _ _ _ ne1]; exact XA.out.2.1); have h2 : ((w3.setCell ⟨w.heap.size, 0, none⟩ (.bool (qs q))).setCell ⟨w.heap.size, 1, none⟩ (.slice A3 (ln (qn q)) c3)).cell? ⟨w.heap.size, 2, none⟩ = some (.slice none 0 0) := (by rw [World.cell?_setCell_other _ _ _ _ ne3, World.cell?_setCell_other _ _ _ _ ne2]; exact XA.out.2.2.1); have i1 := cell_next (bl_al (.refl _ _) (.cells #[.bool (qs q), .slice A3 (ln (qn q)) c3, .slice B3 (ln (qd q)) d3] 25)) h1; have i2 := cell_next (bl_al (.refl _ _) (.cells #[.bool (qs q), .slice A3 (ln (qn q)) c3, .slice B3 (ln (qd q)) d3] 25)) h2; have i3 := frozen_next (bl_al (.refl _ _) (.cells #[.bool (qs q), .slice A3 (ln (qn q)) c3, .slice B3 (ln (qd q)) d3] 25)) h1 (by rw [World.frozen?_setCell]; exact XA.out.2.2.2.2.1); have i4 := frozen_next (bl_al (.refl _ _) (.cells #[.bool (qs q), .slice A3 (ln (qn q)) c3, .slice B3 (ln (qd q)) d3] 25)) h2 (by rw [World.frozen?_setCell, World.frozen?_setCell]; exact XA.out.2.2.2.2.2); obtain ⟨r1, r2, r3, r4, r5, r6⟩ := (q3_put XA.out (.bool (qs q)) (.slice A3 (ln (qn q)) c3) (.slice B3 (ln (qd q)) d3)).al (.cells #[.bool (qs q), .slice A3 (ln (qn q)) c3, .slice B3 (ln (qd q)) d3] 25); clear h1 h2 ne1 ne2 ne3))
  refine bodyPost_ret (v := .agg #[.bool (qs q), .slice A3 (ln (qn q)) c3, .slice B3 (ln (qd q)) d3]) (by simp [results, Tryz.results31, go_sem, r1, r2, r3]) rfl (RQ.mk rfl rfl rfl ((s3.over3 XA.out (.bool (qs q)) (.slice A3 (ln (qn q)) c3) (.slice B3 (ln (qd q)) d3)).alloc (.cells #[.bool (qs q), .slice A3 (ln (qn q)) c3, .slice B3 (ln (qd q)) d3] 25)) ((t3.over3 XA.out (.bool (qs q)) (.slice A3 (ln (qn q)) c3) (.slice B3 (ln (qd q)) d3)).alloc (.cells #[.bool (qs q), .slice A3 (ln (qn q)) c3, .slice B3 (ln (qd q)) d3] 25)) (bl_al (Below.over3 kb.out (Nat.le_refl _) (.bool (qs q)) (.slice A3 (ln (qn q)) c3) (.slice B3 (ln (qd q)) d3)) (.cells #[.bool (qs q), .slice A3 (ln (qn q)) c3, .slice B3 (ln (qd q)) d3] 25)))

theorem rof_p (n d : Int) (q : Rat) (w : World) (n1 : -9223372036854775808 ≤ n) (n2 : n ≤ 9223372036854775807) (d1 : -9223372036854775808 ≤ d) (d2 : d ≤ 9223372036854775807) (d0 : d ≠ 0) (hq : qmk (isg n != isg d) n.natAbs d.natAbs = q) (f : fitq q) :
    Calls Tryz.prog 31 #[.int .i64 n, .int .i64 d] w (NewR q w) := (rof_q n d q w n1 n2 d1 d2 d0 hq).mono fun e w' h => RQ.newR h f
theorem rsame_p {p r : Pt} (hp : p.Ok) (hr : r.Ok) (w : World) (aP : p.At w) (aR : r.At w) (b : Bool) (hb : decide (p.q = r.q) = b) : Calls Tryz.prog 24 #[rv p, rv r] w fun e w' => e = .returned (.bool b) ∧ Below w.heap.size w w' := by
  rw [hp.rv, hr.rv]
  exact same_q p.q r.q _ _ _ _ _ _ _ _ w (hp.sl aP).1 (hp.sl aP).2 (hr.sl aR).1 (hr.sl aR).2 hp.f hr.f b hb
theorem pl_bk {w : World} {g : Nat} {l : List Pt} (h : Bk g (pcs l).toArray 83 w) (hA : ∀ p ∈ l, p.At w) : Pl w (some ⟨g, 0, none⟩) l := by
  refine .inr ⟨g, 0, rfl, fun i hi => ⟨?_, hA _ (List.getElem_mem hi)⟩⟩
  have key : ∀ k (hk : k < 4) v, l[i].cs[k]? = some v → w.cell? ⟨g, 0 + i * 4 + k, none⟩ = some v := fun k hk v hv => by
    refine h.cell ?_
    rw [List.getElem?_toArray, Nat.zero_add, pcs_get l i k hi hk]
    exact hv
  exact ⟨key 0 (by decide) _ rfl, key 1 (by decide) _ rfl, key 2 (by decide) _ rfl, key 3 (by decide) _ rfl⟩
def Pt.as (p : Pt) (t : Int) : Pt := { p with t := t }
theorem Pt.Ok.as {p : Pt} (h : p.Ok) (t : Int) : (p.as t).Ok := ⟨h.s, h.x, h.y, h.f⟩
theorem Pt.At.as {p : Pt} {w : World} (h : p.At w) (t : Int) : (p.as t).At w := h
structure Ac (r1 r2 r3 : Pt) : Prop where
  q1 : r1.q = 2
  q2 : r2.q = -1
  q3 : r3.q = 3
  k1 : r1.Ok
  k2 : r2.Ok
  k3 : r3.Ok
structure Ap (r1 r2 r3 : Pt) (G gp : Nat) (W : World) : Prop where
  pl : Pl W (some ⟨G, 0, none⟩) [r1.as 1, r2.as 4]
  a3 : r3.At W
  x : C4 gp (.slice (some ⟨G, 0, none⟩) 2 2) (.bool r3.s) (.slice r3.A r3.xs.length r3.a) (.slice r3.B r3.ys.length r3.b) W
section

variable {r1 r2 r3 : Pt} {G gp : Nat} {W W' : World}
theorem Ap.next (h : Ap r1 r2 r3 G gp W) (hb : Below W.heap.size W W') : Ap r1 r2 r3 G gp W' := ⟨h.pl.next hb, h.a3.next hb, h.x.next hb⟩
theorem Ac.ok (h : Ac r1 r2 r3) : ∀ p ∈ [r1.as 1, r2.as 4], p.Ok := by
  intro p hp
  simp at hp
  rcases hp with rfl | rfl
  · exact h.k1.as 1
  · exact h.k2.as 4
theorem Ac.qt (h : Ac r1 r2 r3) : [r1.as 1, r2.as 4].map Pt.qt = [(2, 1), (-1, 4)] := by
  show [(r1.q, (1 : Int)), (r2.q, 4)] = _
  rw [h.q1, h.q2]
theorem Ac.v (h : Ac r1 r2 r3) : pvB (-1) [r1.as 1, r2.as 4] = true := by
  rw [pvB_rvB h.ok, h.qt]
  exact ⟨by decide, by decide, by decide, by decide, trivial⟩
end
def qo (f : Int → Rat) : Tells := fun t => (qs (f t), digs (qn (f t)), digs (qd (f t)))
theorem qo_q (f : Int → Rat) (t : Int) : oq (qo f) t = f t := by
  show qmk (qs (f t)) (val (digs (qn (f t)))) (val (digs (qd (f t)))) = _
  rw [val_digs, val_digs, qmk_self]
theorem qo_ok {f : Int → Rat} {t : Int} (h : fitq (f t)) : oOk (qo f) t = true := validQ_q (f t) h.1 h.2
theorem tell_of {f : Int → Rat} {t : Int} {w w' : World} {r : Pt} (hq : r.q = f t) (hk : r.Ok) : (r.s, r.xs, r.ys) = qo f t := by
  show _ = (qs (f t), digs (qn (f t)), digs (qd (f t)))
  rw [← hq, ← hk.s, ← hk.x, ← hk.y]
end Nt

end Go.Proofs.YtgimmmmpollkhaaGreat

namespace Go.Proofs.YtgimmmmpollkhaaGreat

open Go.ChangeShapes Go.RowKit

namespace Nt
set_option maxRecDepth 100000
set_option linter.unusedSimpArgs false
set_option linter.unusedVariables false

structure Pb (L : List (Rat × Int)) (q : Rat) (g : Nat) (A : Option Addr) (n k : Nat) (l : List Pt) (c : Pt) (W : World) : Prop where
  hn : n = l.length
  qt : l.map Pt.qt = L
  hq : c.q = q
  pl : Pl W A l
  at_ : c.At W
  ok : ∀ p ∈ l, p.Ok
  ck : c.Ok
  lk : l.length ≤ k
  lm : k ≤ maxLen
  x : C4 g (.slice A n k) (.bool c.s) (.slice c.A c.xs.length c.a) (.slice c.B c.ys.length c.b) W
theorem Pb.next {L : List (Rat × Int)} {q : Rat} {g : Nat} {A : Option Addr} {n k : Nat} {l : List Pt} {c : Pt} {W W' : World} (h : Pb L q g A n k l c W) (hb : Below W.heap.size W W') : Pb L q g A n k l c W' := ⟨h.hn, h.qt, h.hq, h.pl.next hb, h.at_.next hb, h.ok, h.ck, h.lk, h.lm, h.x.next hb⟩
structure Rb (q : Rat) (g : Nat) (r : Pt) (W : World) : Prop where
  hq : r.q = q
  ok : r.Ok
  at_ : r.At W
  x : C3 g (.bool r.s) (.slice r.A r.xs.length r.a) (.slice r.B r.ys.length r.b) W
theorem Rb.next {q : Rat} {g : Nat} {r : Pt} {W W' : World} (h : Rb q g r W) (hb : Below W.heap.size W W') : Rb q g r W' := ⟨h.hq, h.ok, h.at_.next hb, h.x.next hb⟩
theorem pb_new {L : List (Rat × Int)} {q : Rat} {A : Option Addr} {k : Nat} {l : List Pt} {c : Pt} {W : World} (qt : l.map Pt.qt = L) (hq : c.q = q) (pl : Pl W A l) (a : c.At W) (ok : ∀ p ∈ l, p.Ok) (ck : c.Ok) (lk : l.length ≤ k) (lm : k ≤ maxLen) :
    Pb L q W.heap.size A l.length k l c (W.alloc (.cells #[.slice A l.length k, .bool c.s, .slice c.A c.xs.length c.a, .slice c.B c.ys.length c.b] 27)) :=
  ⟨rfl, qt, hq, pl.next (bl_al (.refl _ _) _), a.next (bl_al (.refl _ _) _), ok, ck, lk, lm, C4.of (Bk.new _ _ W)⟩

theorem rb_new {q : Rat} {r : Pt} {W : World} (hq : r.q = q) (hk : r.Ok) (ha : r.At W) : Rb q W.heap.size r (W.alloc (.cells #[.bool r.s, .slice r.A r.xs.length r.a, .slice r.B r.ys.length r.b] 25)) := ⟨hq, hk, ha.next (bl_al (.refl _ _) _), C3.of (Bk.new _ _ W)⟩
section

variable {U W : World} {cur cur' : Array Value} {t t' : TypeId}
theorem zd (hb : Below ((U.alloc (.cells cur t)).drew).heap.size ((U.alloc (.cells cur t)).drew) W) : Bk U.heap.size cur t W := Bk.next (Bk.next (Bk.new cur t U) (((Off.refl [] _).drew).below (Nat.le_refl _) (by simp))) hb
theorem z1 (hb : Below (U.alloc (.cells cur t)).heap.size (U.alloc (.cells cur t)) W) : Bk U.heap.size cur t W := Bk.next (Bk.new cur t U) hb
theorem z2 (hb : Below ((U.alloc (.cells cur t)).alloc (.cells cur' t')).heap.size ((U.alloc (.cells cur t)).alloc (.cells cur' t')) W) : Bk (U.heap.size + 1) cur' t' W := Bk.next (Bk.new1 cur' t' U _) hb
theorem z3 (hb : Below ((U.alloc (.cells cur t)).alloc (.cells cur' t')).heap.size ((U.alloc (.cells cur t)).alloc (.cells cur' t')) W) : Bk U.heap.size cur t W := Bk.next ((Bk.new cur t U).al _) hb
end
theorem ka0 (U : World) : Below U.heap.size U U.drew := ((Off.refl [] U).drew).below (Nat.le_refl _) (by simp)
theorem ka1 (U : World) (x : Obj) : Below U.heap.size U ((U.alloc x).drew) := bl_trans (bl_al (.refl _ _) x) (ka0 _)
theorem pb_set {L : List (Rat × Int)} {q : Rat} {A : Option Addr} {k : Nat} {l : List Pt} {c : Pt} {W : World} {g : Nat} {t : TypeId} (h : Bk g zP t W) (qt : l.map Pt.qt = L) (hq : c.q = q) (pl : Pl W A l) (a : c.At W) (ok : ∀ p ∈ l, p.Ok) (ck : c.Ok) (lk : l.length ≤ k) (lm : k ≤ maxLen) :
    Pb L q g A l.length k l c ((((W.setCell ⟨g, 0, none⟩ (.slice A l.length k)).setCell ⟨g, 1, none⟩ (.bool c.s)).setCell ⟨g, 2, none⟩ (.slice c.A c.xs.length c.a)).setCell ⟨g, 3, none⟩ (.slice c.B c.ys.length c.b)) := by
  have hO := off4 g W (.slice A l.length k) (.bool c.s) (.slice c.A c.xs.length c.a) (.slice c.B c.ys.length c.b)
  exact ⟨rfl, qt, hq, pl_off h pl hO, at_off h a hO, ok, ck, lk, lm, c4_set h _ _ _ _⟩
end Nt

end Go.Proofs.YtgimmmmpollkhaaGreat

namespace Go.Proofs.YtgimmmmpollkhaaGreat

open Go.ChangeShapes Go.RowKit

namespace Nt
set_option maxRecDepth 100000
set_option linter.unusedSimpArgs false
set_option linter.unusedVariables false

def scq' (k : Rat) (L : List (Rat × Int)) : List (Rat × Int) := if k = 0 then [] else scq k L
theorem scaleL_q (k : Rat) (l : List Pt) : scaleL k l = scq' k (l.map Pt.qt) := by
  unfold scaleL scq' scL scq
  rw [List.map_map]
  rfl
theorem scB_q (k : Rat) (l : List Pt) (c : Pt) : scB k l c = ((l.map Pt.qt).all (fun x => fitB (x.1 * k)) && fitB (c.q * k)) := by
  unfold scB
  rw [List.all_map]
  rfl
def small (j : Nat) (L : List (Rat × Int)) : Prop := ∀ x ∈ L, bnd j x.1
theorem fitB_bnd {q : Rat} {j : Nat} (h : bnd j q) (hj : j ≤ 64) : fitB q = true := fitB_t.2 (fitq_bnd h hj)
theorem scq'_len (k : Rat) (L : List (Rat × Int)) : (scq' k L).length ≤ L.length := by
  unfold scq'
  split
  · simp
  · unfold scq
    rw [List.length_map]
    exact Nat.le_refl _
theorem rvB_scq' (k : Rat) {t : Int} {L : List (Rat × Int)} (h : rvB t L) : rvB t (scq' k L) := by
  unfold scq'
  split
  · trivial
  · exact rvB_scq (by assumption) h
section

variable {L M : List (Rat × Int)} {q r : Rat} {g g' : Nat} {A B : Option Addr} {n n' k k' : Nat} {l m : List Pt} {c d : Pt} {W : World}
theorem Pb.v (h : Pb L q g A n k l c W) (hv : rvB (-1) L) : pvB (-1) l = true := by
  rw [pvB_rvB h.ok, h.qt]
  exact hv
theorem Pb.len (h : Pb L q g A n k l c W) : l.length = L.length := by
  rw [← h.qt, List.length_map]
end
theorem rsign_p {p : Pt} (hp : p.Ok) (w : World) (aP : p.At w) : Calls Tryz.prog 32 #[rv p] w fun e w' => e = .returned (.int .i64 (cmpZ p.q.num 0)) ∧ Below w.heap.size w w' := by
  rw [hp.rv]
  exact rsign_q p.q _ _ _ _ w (hp.sl aP).1 (hp.sl aP).2 hp.f _ rfl
end Nt

end Go.Proofs.YtgimmmmpollkhaaGreat
