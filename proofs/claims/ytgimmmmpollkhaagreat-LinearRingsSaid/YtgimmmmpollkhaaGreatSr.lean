
/-
  Reserved: which names mean something else.
  A table in memory: what it is, what stands beside it.
  A stack of names in memory, and the small functions of a table.
  Whether a function's sorts may be those of one; a function with a list of its own.
  A function with a list of its own.
  A name is laid on a stack.
  A name is laid on a stack: the walk.
  A table: what it is in memory; a sort is declared.
  A table takes a function: what it is behind it.
  A function is declared: the walk.
  A function that may not be declared.
  A function is found.
-/
import Derived.WalkKit

import Derived.WalkSpells

import Derived.Deep.Draws

import Derived.Test.YtgimmmmpollkhaaGreatMem

import Derived.Test.YtgimmmmpollkhaaGreatProg

import Derived.Maps.OwnSet

import Derived.StringKeys

import Derived.OwnWalk

import Derived.Laws.AppendOwn

import Derived.Maps.AppendAt

import Derived.Deep.RegionHeld3

import Derived.Test.YtgimmmmpollkhaaGreatShs
set_option linter.unusedSimpArgs false
set_option linter.unusedVariables false
namespace Go.Proofs.YtgimmmmpollkhaaGreat

open Go.ChangeShapes Go.RowKit

namespace Nt

/-- The words that mean something else. -/
def resL : List (List UInt8) := [[116, 114, 117, 101], [102, 97, 108, 115, 101], [110, 111, 116], [97, 110, 100], [111, 114], [61, 62], [120, 111, 114], [61], [100, 105, 115, 116, 105, 110, 99, 116], [105, 116, 101], [108, 101, 116], [43], [45], [42], [47], [60, 61], [60], [62, 61], [62], [66, 111, 111, 108], [82, 101, 97, 108], [95], [33], [97, 115], [101, 120, 105, 115, 116, 115], [102, 111, 114, 97, 108, 108], [112, 97, 114]]
def resB (s : ByteArray) : Bool := resL.contains s.data.toList

theorem eql_s (t : TypeId) (a b : ByteArray) : binOp .eql t (.string a) (.string b) = pure (.bool (a.data.toList == b.data.toList)) := by
  rw [binOp_string_eql, ByteArray.toList_eq, ByteArray.toList_eq]

end Nt

end Go.Proofs.YtgimmmmpollkhaaGreat

namespace Go.Proofs.YtgimmmmpollkhaaGreat

open Go.ChangeShapes Go.RowKit

namespace Nt
set_option maxRecDepth 100000

/-- All but the blocks of T stands. -/
structure Off (T : List Nat) (w w' : World) : Prop where
  os : w'.os = w.os
  tape : w'.tape = w.tape
  output : w'.output = w.output
  size : w.heap.size ≤ w'.heap.size
  block : ∀ k, k < w.heap.size → k ∉ T → w'.heap[k]? = w.heap[k]?

section

variable {T T' : List Nat} {w w1 w' : World}
theorem Off.refl (T : List Nat) (w : World) : Off T w w := ⟨rfl, rfl, rfl, Nat.le_refl _, fun _ _ _ => rfl⟩
theorem Off.trans (h : Off T w w1) (k : Off T' w1 w') (hT : ∀ b ∈ T', b ∈ T ∨ w.heap.size ≤ b) : Off T w w' :=
  ⟨k.os.trans h.os, k.tape.trans h.tape, k.output.trans h.output, Nat.le_trans h.size k.size, fun b hb hn =>
    (k.block b (Nat.lt_of_lt_of_le hb h.size) (fun hm => (hT b hm).elim hn (fun hle => Nat.not_lt.2 hle hb))).trans (h.block b hb hn)⟩
theorem Off.more (h : Off T w w') (hT : ∀ b ∈ T, b ∈ T') : Off T' w w' := ⟨h.os, h.tape, h.output, h.size, fun b hb hn => h.block b hb (fun hm => hn (hT b hm))⟩
theorem Off.of_below (h : Below w.heap.size w w') (T : List Nat) : Off T w w' := ⟨h.os, h.tape, h.output, h.size, fun b hb _ => h.block b hb⟩
theorem Off.below {B : Nat} (h : Off T w w') (hB : B ≤ w.heap.size) (hT : ∀ b ∈ T, B ≤ b) : Below B w w' :=
  ⟨h.os, h.tape, h.output, h.size, fun b hb => h.block b (Nat.lt_of_lt_of_le hb hB) (fun hm => Nat.not_lt.2 (hT b hm) hb)⟩
theorem Off.of_grown {row : Option Nat} (h : w.grownBy w' row) (hr : ∀ k, row = some k → k ∈ T ∨ w.heap.size ≤ k) : Off T w w' :=
  ⟨h.os, h.tape, h.output, h.size, fun b hb hn => h.block b hb (fun e => (hr b e.symm).elim hn (fun hle => Nat.not_lt.2 hle hb))⟩
theorem Off.alloc (h : Off T w w') (o : Obj) : Off T w (w'.alloc o) :=
  h.trans (T' := T) (.of_below ((Below.refl _ _).alloc (Nat.le_refl _) o) T) (fun _ hb => .inl hb)
theorem Off.drew (h : Off T w w') : Off T w w'.drew := ⟨h.os, h.tape, h.output, h.size, h.block⟩
theorem Off.drewN (h : Off T w w') (n : Nat) : Off T w (w'.drewN n) := ⟨h.os, h.tape, h.output, h.size, h.block⟩
theorem Off.cell (h : Off T w w') {a : Addr} {v : Value} (hc : w.cell? a = some v) (hb : a.block < w.heap.size) (hn : a.block ∉ T) : w'.cell? a = some v :=
  (World.cell?_of_block (h.block _ hb hn)).trans hc
theorem Off.frozen (h : Off T w w') {a : Addr} {v : Bool} (hc : w.frozen? a = v) (hb : a.block < w.heap.size) (hn : a.block ∉ T) : w'.frozen? a = v :=
  (World.frozen?_of_block (h.block _ hb hn)).trans hc
theorem Off.setCell (h : Off T w w') (p : Addr) (u : Value) (hp : p.block ∈ T ∨ w.heap.size ≤ p.block) : Off T w (w'.setCell p u) := by
  refine ⟨h.os, h.tape, h.output, by rw [setCell_size]; exact h.size, fun b hb hn => ?_⟩
  rw [← h.block b hb hn]
  have hne : b ≠ p.block := by
    rintro rfl
    exact hp.elim hn (fun hle => Nat.not_lt.2 hle hb)
  simp only [World.setCell, Array.getElem?_modify]
  rw [if_neg (fun e => hne e.symm)]
end

/-- A row of ints that nothing writes: it lies outside T. -/
def Ir (T : List Nat) (w : World) (A : Option Addr) (xs : List Int) : Prop :=
  xs = [] ∨ ∃ b o, A = some ⟨b, o, none⟩ ∧ b < w.heap.size ∧ b ∉ T ∧ ∀ j, j < xs.length → w.cell? ⟨b, o + j, none⟩ = some (.int .i64 (xs.getD j 0))
theorem Ir.nil {T : List Nat} {w : World} {A : Option Addr} : Ir T w A [] := .inl rfl
theorem Ir.off {T S T' : List Nat} {w w' : World} {A : Option Addr} {xs : List Int} (h : Ir T w A xs) (hf : Off S w w') (hS : ∀ b ∈ S, b ∈ T ∨ w.heap.size ≤ b) (hT : ∀ b ∈ T', b ∈ T ∨ w.heap.size ≤ b) : Ir T' w' A xs := by
  rcases h with h | ⟨b, o, rfl, hb, hn, hc⟩
  · exact .inl h
  · refine .inr ⟨b, o, rfl, Nat.lt_of_lt_of_le hb hf.size, fun hm => (hT b hm).elim hn (fun hle => Nat.not_lt.2 hle hb), fun j hj => ?_⟩
    exact hf.cell (a := ⟨b, o + j, none⟩) (hc j hj) hb (fun hm => (hS b hm).elim hn (fun hle => Nat.not_lt.2 hle hb))
theorem Ir.more {T T' : List Nat} {w : World} {A : Option Addr} {xs : List Int} (h : Ir T w A xs) (hT : ∀ b ∈ T', b ∈ T ∨ w.heap.size ≤ b) : Ir T' w A xs := h.off (S := []) (.refl _ _) (by simp) hT

/-- What a map of names says of a list of names. -/
abbrev kl (s : ByteArray) : Lit := .string s.data.toList
structure Nm (D : DataW Unit) (es : List (ByteArray × Nat)) : Prop where
  has : ∀ s : ByteArray, Maps.has D (kl s) = es.any (fun e => e.1.data.toList == s.data.toList)
  at_ : ∀ i (h : i < es.length), D.atKey (kl es[i].1) (.lit (.int .i64 0)) = .lit (.int .i64 (i : Int))
  once : (es.map (fun e => e.1.data.toList)).Nodup
  small : ∀ e ∈ es, e.1.size ≤ maxLen

theorem Nm.nil : Nm (.map []) [] := ⟨fun s => rfl, fun i h => by simp at h, by simp, by simp⟩
theorem kl_ne {a b : ByteArray} (h : a.data.toList ≠ b.data.toList) : kl a ≠ kl b := fun e => h (by injection e)
theorem Nm.push {D : DataW Unit} {es : List (ByteArray × Nat)} (h : Nm D es) (hD : Maps.IsMap D) (s : ByteArray) (l : Nat) (hs : es.any (fun e => e.1.data.toList == s.data.toList) = false) (hz : s.size ≤ maxLen) :
    Nm (D.put (kl s) (.lit (.int .i64 (es.length : Int)))) (es ++ [(s, l)]) := by
  have hno : ∀ e ∈ es, e.1.data.toList ≠ s.data.toList := by
    intro e he
    have := List.any_eq_false.1 hs e he
    simpa using this
  refine ⟨fun x => ?_, fun i hi => ?_, ?_, fun e he => ?_⟩
  · by_cases hx : x.data.toList = s.data.toList
    · have : kl x = kl s := by unfold kl; rw [hx]
      rw [this, Maps.has_put_same hD (by simp [WideAt.IsKeyLit])]
      simp [hx]
    · rw [Maps.has_put_other (kl_ne hx), h.has]
      have : (s.data.toList == x.data.toList) = false := beq_eq_false_iff_ne.2 (fun e => hx e.symm)
      rw [List.any_append, List.any_cons, List.any_nil, this, Bool.or_false, Bool.or_false]
  · by_cases hl : i < es.length
    · rw [List.getElem_append_left hl, Maps.atKey_put_other (kl_ne (hno _ (List.getElem_mem hl)))]
      exact h.at_ i hl
    · have hi' : i = es.length := by simp at hi; omega
      subst hi'
      simp only [List.getElem_concat_length]
      exact Maps.atKey_put_same hD (by simp [WideAt.IsKeyLit]) _ _
  · rw [List.map_append, List.nodup_append]
    refine ⟨h.once, by simp, ?_⟩
    intro a ha b hb
    simp at hb
    subst hb
    simp only [List.mem_map] at ha
    obtain ⟨e, he, rfl⟩ := ha
    exact hno e he
  · rcases List.mem_append.1 he with he | he
    · exact h.small e he
    · simp at he
      subst he
      exact hz
theorem Nm.pop {D : DataW Unit} {es : List (ByteArray × Nat)} {e : ByteArray × Nat} (h : Nm D (es ++ [e])) : Nm (D.del (kl e.1)) es := by
  have hn := h.once
  rw [List.map_append, List.nodup_append] at hn
  obtain ⟨h1, _, h3⟩ := hn
  have hno : ∀ x ∈ es, x.1.data.toList ≠ e.1.data.toList := fun x hx => h3 _ (List.mem_map.2 ⟨x, hx, rfl⟩) _ (by simp)
  refine ⟨fun s => ?_, fun i hi => ?_, h1, fun x hx => h.small x (List.mem_append_left _ hx)⟩
  · by_cases hs : s.data.toList = e.1.data.toList
    · have : kl s = kl e.1 := by unfold kl; rw [hs]
      rw [this, Maps.has_del_same]
      symm
      rw [List.any_eq_false]
      intro x hx
      rw [hs]
      simpa using hno x hx
    · rw [Maps.has_del_other (kl_ne hs), h.has]
      have : (e.1.data.toList == s.data.toList) = false := beq_eq_false_iff_ne.2 (fun e => hs e.symm)
      rw [List.any_append, List.any_cons, List.any_nil, this, Bool.or_false, Bool.or_false]
  · rw [Maps.atKey_del_other (kl_ne (hno _ (List.getElem_mem hi)))]
    have := h.at_ i (by simp; omega)
    rwa [List.getElem_append_left hi] at this
end Nt

end Go.Proofs.YtgimmmmpollkhaaGreat

namespace Go.Proofs.YtgimmmmpollkhaaGreat

open Go.ChangeShapes Go.RowKit

open Go.Maps (Keyed string_keyed)

open Go.ChangeMaps Go.MapKept Go.WideMaps

namespace Nt
set_option maxRecDepth 100000

theorem lawS : Keyed Tryz.prog 9 := string_keyed Tryz.underlying9
theorem zeroI (w : World) : (zeroValue 3).run Tryz.prog w = .ok (.int .i64 0) w := by kernel_rfl

/-- The cells of a list of names. -/
def ecs (es : List (ByteArray × Nat)) : List Value := es.flatMap fun e => [.string e.1, .int .i64 (e.2 : Int)]
/-- A map of names. -/
def Mp (w : World) (m : Option Nat) (N : Nat) (es : List (ByteArray × Nat)) : Prop :=
  (m = none ∧ es = []) ∨ ∃ b D, m = some b ∧ w.ownsMap Tryz.prog 9 (plainElem (H := Unit) Tryz.prog 3) b N D ∧ Nm D es
def hasB (es : List (ByteArray × Nat)) (s : ByteArray) : Bool := es.any (fun e => e.1.data.toList == s.data.toList)
/-- The blocks of a stack. -/
def bks (v : Value) (m : Option Nat) : List Nat := v.ownBlock.toList ++ m.toList

/-- Is a number that of a sort that is there, where n were declared? -/
def knownB (n : Nat) (x : Int) : Bool := decide (0 ≤ x) && decide (x < (n : Int) + 2)

def nameB (s : ByteArray) : Bool := decide (1 ≤ s.size) && decide (s.size ≤ 200) && !resB s
def freeB (es : List (ByteArray × Nat)) (s : ByteArray) : Bool := nameB s && !hasB es s

end Nt

end Go.Proofs.YtgimmmmpollkhaaGreat

namespace Go.Proofs.YtgimmmmpollkhaaGreat

open Go.ChangeShapes Go.RowKit

namespace Nt
set_option maxRecDepth 100000

theorem cell_in {w : World} {b o : Nat} {v : Value} (h : w.cell? ⟨b, o, none⟩ = some v) : b < w.heap.size := by
  unfold World.cell? at h
  rcases hb : w.heap[b]? with _ | x
  · simp [hb] at h
  · exact (Array.getElem?_eq_some_iff.1 hb).1
theorem cell_al {w : World} {b o : Nat} {v : Value} (h : w.cell? ⟨b, o, none⟩ = some v) (x : Obj) : (w.alloc x).cell? ⟨b, o, none⟩ = some v :=
  ((Off.refl [] w).alloc x).cell h (cell_in h) (by simp)
theorem Ir.al {T : List Nat} {w : World} {A : Option Addr} {xs : List Int} (h : Ir T w A xs) (x : Obj) : Ir [] (w.alloc x) A xs :=
  h.off ((Off.refl [] w).alloc x) (by simp) (by simp)

/-- May a function have these sorts, where n were declared? -/
def argB (n : Nat) (x : Int) : Bool := decide (x ≠ 0) && knownB n x
def typedB (n : Nat) (ar : List Int) (rs : Int) : Bool := decide (ar.length ≤ 64) && knownB n rs && ar.all (argB n)

theorem all_step {n : Nat} {ar : List Int} {k : Nat} (hk : k < ar.length) (h : (ar.take k).all (argB n) = true) (hx : argB n (ar.getD k 0) = true) : (ar.take (k + 1)).all (argB n) = true := by
  rw [List.take_add_one, List.all_append, h, List.getElem?_eq_getElem hk]
  have : ar.getD k 0 = ar[k] := by simp [List.getD, List.getElem?_eq_getElem hk]
  rw [this] at hx
  simp [hx]
theorem all_stop {n : Nat} {ar : List Int} {k : Nat} (hk : k < ar.length) (hx : argB n (ar.getD k 0) = false) : ar.all (argB n) = false := by
  have : ar.getD k 0 = ar[k] := by simp [List.getD, List.getElem?_eq_getElem hk]
  rw [this] at hx
  exact List.all_eq_false.2 ⟨ar[k], List.getElem_mem hk, by simp [hx]⟩

end Nt

end Go.Proofs.YtgimmmmpollkhaaGreat

namespace Go.Proofs.YtgimmmmpollkhaaGreat

open Go.ChangeShapes Go.RowKit

namespace Nt
set_option maxRecDepth 100000

/-- Block g is a row that may be written. -/
def Bk (g : Nat) (cur : Array Value) (t : TypeId) (w : World) : Prop := w.heap[g]? = some (.cells cur t (0, 0))
section

variable {g : Nat} {cur : Array Value} {t : TypeId} {w w' : World}
theorem Bk.lt (h : Bk g cur t w) : g < w.heap.size := (Array.getElem?_eq_some_iff.1 h).1
theorem Bk.off {T : List Nat} (h : Bk g cur t w) (hf : Off T w w') (hn : g ∉ T) : Bk g cur t w' := (hf.block g h.lt hn).trans h
theorem Bk.next (h : Bk g cur t w) (hb : Below w.heap.size w w') : Bk g cur t w' := (hb.block g h.lt).trans h
theorem Bk.al (h : Bk g cur t w) (o : Obj) : Bk g cur t (w.alloc o) := h.next ((Below.refl _ _).alloc (Nat.le_refl _) o)
theorem Bk.new (cur : Array Value) (t : TypeId) (w : World) : Bk w.heap.size cur t (w.alloc (.cells cur t)) := heap_alloc_new w _
theorem Bk.new1 (cur : Array Value) (t : TypeId) (w : World) (o : Obj) : Bk (w.heap.size + 1) cur t ((w.alloc o).alloc (.cells cur t)) := by
  have := Bk.new cur t (w.alloc o)
  simpa using this
theorem Bk.set (h : Bk g cur t w) {j : Nat} {cur' : Array Value} (v : Value) (e : cur' = cur.setIfInBounds j v) : Bk g cur' t (w.setCell ⟨g, j, none⟩ v) := by
  unfold Bk at h ⊢
  subst e
  have hl := (Array.getElem?_eq_some_iff.1 h).1
  simp [World.setCell, Array.getElem?_modify, h]
theorem Bk.set_far (h : Bk g cur t w) (p : Addr) (v : Value) (hn : g ≠ p.block) : Bk g cur t (w.setCell p v) := by
  have := (Off.refl [p.block] w).setCell p v (.inl (by simp))
  exact h.off this (by simpa using hn)
theorem Bk.cell (h : Bk g cur t w) {j : Nat} {v : Value} (hv : cur[j]? = some v) : w.cell? ⟨g, j, none⟩ = some v := by
  rw [cell_of_row w g j cur t (0, 0) h]; exact hv
theorem Bk.free (h : Bk g cur t w) (j : Nat) : w.frozen? ⟨g, j, none⟩ = false := by
  unfold World.frozen?
  unfold Bk at h
  simp [h]
end

/-- An append whose run is known, at the operation. -/
theorem wpList_append_run {P : Program} (w : World) {ops : Array Oper} {rest : List Oper} {o : Oper} {a : Act} {Q : Exit → Act → World → Prop} (hg : o.guard = none) (s x : Operand) (t : TypeId)
    (ho : o.op = .call { callee := .builtin .append, args := #[s, x], argTypes := #[t, t] }) (u v r : Value) (w' : World) (hs : a.eval s = u) (hx : a.eval x = v)
    (hrun : ∀ ty, (Builtin.append_ #[t, t] ty #[u, v]).run P w = .ok r w') (hK : wpList P ops Q rest (a.put o.dst r) w') : wpList P ops Q (o :: rest) a w := by
  refine wpList_plain hg fun K' hK' => ?_
  unfold Oper.wp execOp
  simp only [ho, resolve, invoke, builtin, Sem.run_bind, Sem.run_pure, Result.andThen_ok, List.map_toArray, List.map_cons, List.map_nil, hs, hx, hrun]
  exact hK' _ _ hK

/-- What a function reads as. -/
def fv (nm : ByteArray) (A : Option Addr) (n c : Nat) (rs : Int) : Value := .agg #[.string nm, .slice A n c, .int .i64 rs]

end Nt

end Go.Proofs.YtgimmmmpollkhaaGreat

namespace Go.Proofs.YtgimmmmpollkhaaGreat

open Go.ChangeShapes Go.RowKit

open Go.ChangeMaps Go.MapKept Go.WideMaps

namespace Nt
theorem ecs_length (es : List (ByteArray × Nat)) : (ecs es).length = es.length * 2 := by
  induction es with
  | nil => rfl
  | cons e es ih => unfold ecs at *; simp [ih]; omega
theorem ecs_snoc (es : List (ByteArray × Nat)) (s : ByteArray) (l : Nat) : ecs (es ++ [(s, l)]) = ecs es ++ [.string s, .int .i64 (l : Int)] := by
  unfold ecs; simp

end Nt

end Go.Proofs.YtgimmmmpollkhaaGreat

namespace Go.Proofs.YtgimmmmpollkhaaGreat

open Go.ChangeShapes Go.RowKit

open Go.ChangeMaps Go.MapKept Go.WideMaps

namespace Nt
set_option maxRecDepth 100000
set_option linter.unusedSimpArgs false
set_option linter.unusedVariables false

theorem Off.row {T : List Nat} {w w' : World} {base : Nat} {e : TypeId} {size : Nat} {v : Value} {n : Nat} {xs : List Value} (h : w.ownsRow base e size v n xs) (hf : Off T w w') (hn : ∀ k, v.ownBlock = some k → k ∉ T) : w'.ownsRow base e size v n xs := by
  refine ⟨h.1, ?_⟩
  rcases h.2 with h2 | ⟨g, cap, cur, rfl, h3, h4, h5⟩
  · exact .inl h2
  · exact .inr ⟨g, cap, cur, rfl, h3, (hf.block g (Array.getElem?_eq_some_iff.1 h4).1 (hn g rfl)).trans h4, h5⟩
theorem Off.map {T : List Nat} {w w' : World} {m : Option Nat} {N : Nat} {es : List (ByteArray × Nat)} (h : Mp w m N es) (hf : Off T w w') (hn : ∀ k, m = some k → k ∉ T) : Mp w' m N es := by
  rcases h with h | ⟨b, D, rfl, hown, hD⟩
  · exact .inl h
  · obtain ⟨en, cl, hb, hF⟩ := hown
    exact .inr ⟨b, D, rfl, ⟨en, cl, (hf.block b (Array.getElem?_eq_some_iff.1 hb).1 (hn b rfl)).trans hb, hF⟩, hD⟩
theorem row_lt {w : World} {base : Nat} {e : TypeId} {size : Nat} {v : Value} {n : Nat} {xs : List Value} (h : w.ownsRow base e size v n xs) {k : Nat} (hk : v.ownBlock = some k) : k < w.heap.size := (h.lt k hk).2
theorem map_lt {w : World} {m : Option Nat} {N : Nat} {es : List (ByteArray × Nat)} (h : Mp w m N es) {k : Nat} (hk : m = some k) : k < w.heap.size := by
  rcases h with ⟨rfl, _⟩ | ⟨b, D, rfl, hown, _⟩
  · cases hk
  · cases hk; exact hown.lt
theorem Mp.mono {w : World} {m : Option Nat} {N N' : Nat} {es : List (ByteArray × Nat)} (h : Mp w m N es) (hN : N ≤ N') : Mp w m N' es := by
  rcases h with h | ⟨b, D, rfl, hown, hD⟩
  · exact .inl h
  · exact .inr ⟨b, D, rfl, hown.mono hN, hD⟩

theorem set_same {cur : Array Value} {j : Nat} {v : Value} (h : cur[j]? = some v) : cur.setIfInBounds j v = cur := by
  apply Array.ext_getElem?
  intro k
  by_cases hk : j = k
  · subst hk
    have := (Array.getElem?_eq_some_iff.1 h).1
    rw [Array.getElem?_setIfInBounds_self_of_lt this, h]
  · rw [Array.getElem?_setIfInBounds_ne hk]

theorem Off.less {T S : List Nat} {w w' : World} (h : Off S w w') (hS : ∀ b ∈ S, b ∈ T ∨ w.heap.size ≤ b) : Off T w w' :=
  (Off.refl T w).trans h hS

end Nt

end Go.Proofs.YtgimmmmpollkhaaGreat

namespace Go.Proofs.YtgimmmmpollkhaaGreat

open Go.ChangeShapes Go.RowKit

namespace Nt
set_option maxRecDepth 100000
variable {X : List Nat}
/-- A function that is declared. -/
structure Fn where
  nm : ByteArray
  ar : List Int
  rs : Int
/-- The cells of a list of functions. -/
def Fs (T : List Nat) (w : World) : List Fn → List Value → Prop
  | [], vs => vs = []
  | f :: fs, vs => ∃ A c r, vs = .string f.nm :: .slice A f.ar.length c :: .int .i64 f.rs :: r ∧ Ir T w A f.ar ∧ f.ar.length ≤ 64 ∧ Fs T w fs r
theorem Fs.off {T S T' : List Nat} {w w' : World} (hf : Off S w w') (hS : ∀ b ∈ S, b ∈ T ∨ w.heap.size ≤ b) (hT : ∀ b ∈ T', b ∈ T ∨ w.heap.size ≤ b) : ∀ {fs : List Fn} {vs : List Value}, Fs T w fs vs → Fs T' w' fs vs
  | [], _, h => h
  | _ :: _, _, ⟨A, c, r, e, h1, h2, h3⟩ => ⟨A, c, r, e, h1.off hf hS hT, h2, Fs.off hf hS hT h3⟩
theorem xs_off {T T' X : List Nat} {w w' : World} (h : ∀ b ∈ X, b < w.heap.size ∧ b ∉ T) (hz : w.heap.size ≤ w'.heap.size) (hT : ∀ b ∈ T', b ∈ T ∨ w.heap.size ≤ b) : ∀ b ∈ X, b < w'.heap.size ∧ b ∉ T' :=
  fun b hb => ⟨Nat.lt_of_lt_of_le (h b hb).1 hz, fun hm => (hT b hm).elim (h b hb).2 (fun hle => Nat.not_lt.2 hle (h b hb).1)⟩
theorem app_sub {T T' X : List Nat} {n : Nat} (h : ∀ b ∈ T', b ∈ T ∨ n ≤ b) : ∀ b ∈ T' ++ X, b ∈ T ++ X ∨ n ≤ b := by
  intro b hb
  rcases List.mem_append.1 hb with hb | hb
  · exact (h b hb).imp (List.mem_append_left _) id
  · exact .inl (List.mem_append_right _ hb)
end Nt

end Go.Proofs.YtgimmmmpollkhaaGreat

namespace Go.Proofs.YtgimmmmpollkhaaGreat

open Go.ChangeShapes Go.RowKit

namespace Nt
set_option maxRecDepth 100000
variable {X : List Nat}
theorem Fs.length {T : List Nat} {w : World} : ∀ {fs : List Fn} {vs : List Value}, Fs T w fs vs → vs.length = fs.length * 3
  | [], _, h => by cases h; rfl
  | _ :: fs, _, ⟨A, c, r, e, _, _, h⟩ => by
    rw [e]
    have := Fs.length h
    simp only [List.length_cons, this]
    omega
theorem Fs.snoc {T : List Nat} {w : World} {f : Fn} {A : Option Addr} {c : Nat} (hi : Ir T w A f.ar) (hl : f.ar.length ≤ 64) : ∀ {fs : List Fn} {vs : List Value}, Fs T w fs vs → Fs T w (fs ++ [f]) (vs ++ [.string f.nm, .slice A f.ar.length c, .int .i64 f.rs])
  | [], _, h => by cases h; exact ⟨A, c, [], rfl, hi, hl, rfl⟩
  | _ :: _, _, ⟨A', c', r, e, h1, h2, h3⟩ => by
    subst e
    exact ⟨A', c', r ++ [.string f.nm, .slice A f.ar.length c, .int .i64 f.rs], rfl, h1, h2, Fs.snoc hi hl h3⟩

end Nt

end Go.Proofs.YtgimmmmpollkhaaGreat

namespace Go.Proofs.YtgimmmmpollkhaaGreat

open Go.ChangeShapes Go.RowKit

namespace Nt
set_option maxRecDepth 100000
variable {X : List Nat}
theorem setCell_same {w : World} {g j : Nat} {cur : Array Value} {t : TypeId} {v : Value} (h : Bk g cur t w) (hv : cur[j]? = some v) : w.setCell ⟨g, j, none⟩ v = w := by
  have hh : (w.setCell ⟨g, j, none⟩ v).heap = w.heap := by
    unfold World.setCell
    apply Array.ext_getElem?
    intro k
    simp only [Array.getElem?_modify]
    by_cases hk : g = k
    · subst hk
      unfold Bk at h
      rw [h]
      simp [set_same hv, Addr.spot]
    · simp [hk]
  have h2 : ∀ x : World, x.heap = w.heap → x.tape = w.tape → x.drawn = w.drawn → x.os = w.os → x.output = w.output → x = w := by
    rintro ⟨⟩ h1 h2 h3 h4 h5
    cases w
    simp only at h1 h2 h3 h4 h5
    subst h1 h2 h3 h4 h5
    rfl
  exact h2 _ hh rfl rfl rfl rfl

/-- An append whose run is known, at the operation. -/
theorem wp_append_run {P : Program} (w : World) {o : Oper} {a : Act} {K : Act → World → Prop} {Q : Exit → Act → World → Prop} (s x : Operand) (t : TypeId)
    (ho : o.op = .call { callee := .builtin .append, args := #[s, x], argTypes := #[t, t] }) (u v r : Value) (w' : World) (hs : a.eval s = u) (hx : a.eval x = v)
    (hrun : ∀ ty, (Builtin.append_ #[t, t] ty #[u, v]).run P w = .ok r w') (hK : K (a.put o.dst r) w') : Oper.wp P o a w K Q := by
  unfold Oper.wp execOp
  simp only [ho, resolve, invoke, builtin, Sem.run_bind, Sem.run_pure, Result.andThen_ok, List.map_toArray, List.map_cons, List.map_nil, hs, hx, hrun]
  exact hK

end Nt

end Go.Proofs.YtgimmmmpollkhaaGreat

namespace Go.Proofs.YtgimmmmpollkhaaGreat

open Go.ChangeShapes Go.RowKit

namespace Nt
set_option maxRecDepth 100000
variable {X : List Nat}
end Nt

end Go.Proofs.YtgimmmmpollkhaaGreat

namespace Go.Proofs.YtgimmmmpollkhaaGreat

open Go.ChangeShapes Go.RowKit

namespace Nt
set_option maxRecDepth 100000
variable {X : List Nat}
set_option linter.unusedSimpArgs false
set_option linter.unusedVariables false

theorem Fs.get {T : List Nat} {w : World} : ∀ {fs : List Fn} {vs : List Value} (_ : Fs T w fs vs) (i : Nat) (hi : i < fs.length), ∃ A c, vs[i * 3]? = some (.string fs[i].nm) ∧ vs[i * 3 + 1]? = some (.slice A fs[i].ar.length c) ∧ vs[i * 3 + 2]? = some (.int .i64 fs[i].rs) ∧ Ir T w A fs[i].ar ∧ fs[i].ar.length ≤ 64
  | f :: fs, _, ⟨A, c, r, e, h1, h2, _⟩, 0, _ => by subst e; exact ⟨A, c, rfl, rfl, rfl, h1, h2⟩
  | f :: fs, _, ⟨A', c', r, e, _, _, h3⟩, i + 1, hi => by
    subst e
    obtain ⟨A, c, q0, q1, q2, q3, q4⟩ := Fs.get h3 i (by simpa using hi)
    have e0 : (i + 1) * 3 = i * 3 + 1 + 1 + 1 := by omega
    have e1 : (i + 1) * 3 + 1 = i * 3 + 1 + 1 + 1 + 1 := by omega
    have e2 : (i + 1) * 3 + 2 = i * 3 + 2 + 1 + 1 + 1 := by omega
    refine ⟨A, c, ?_, ?_, ?_, by simpa using q3, by simpa using q4⟩
    · rw [e0]; simpa using q0
    · rw [e1]; simpa using q1
    · rw [e2]; simpa using q2

theorem ecs_get : ∀ (es : List (ByteArray × Nat)) (i : Nat) (hi : i < es.length), (ecs es)[i * 2]? = some (.string es[i].1)
  | e :: es, 0, _ => rfl
  | e :: es, i + 1, hi => by
    have := ecs_get es i (by simpa using hi)
    have e0 : (i + 1) * 2 = i * 2 + 1 + 1 := by omega
    rw [e0]
    unfold ecs at this ⊢
    simpa using this

end Nt

end Go.Proofs.YtgimmmmpollkhaaGreat
