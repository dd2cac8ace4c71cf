
/-
  Reserved: which names mean something else.
  A table in memory: what it is, what stands beside it.
  A stack of names in memory, and the small functions of a table.
  Whether a function's sorts may be those of one; a function with a list of its own.
  A function with a list of its own.
  A name is laid on a stack.
  A name is laid on a stack: the walk.
  A table: what it is in memory; a sort is declared.
  A table takes a function: what it is behind it.
  A function is declared: the walk.
  A function that may not be declared.
  A function is found.
-/
import Derived.WalkKit
import Derived.WalkSpells
import Derived.Deep.Draws
import Derived.Test.YtgimmmmpollkhaaGreatNMem
import Derived.Test.YtgimmmmpollkhaaGreatProg
import Derived.Maps.OwnSet
import Derived.StringKeys
import Derived.OwnWalk
import Derived.Laws.AppendOwn
import Derived.Maps.AppendAt
import Derived.Deep.RegionHeld3
import Derived.Test.YtgimmmmpollkhaaGreatShs
set_option linter.unusedSimpArgs false
set_option linter.unusedVariables false
namespace Go.Proofs.YtgimmmmpollkhaaGreat

open Go.ChangeShapes Go.RowKit

namespace Nt

end Nt

end Go.Proofs.YtgimmmmpollkhaaGreat

namespace Go.Proofs.YtgimmmmpollkhaaGreat

open Go.ChangeShapes Go.RowKit

namespace Nt
set_option maxRecDepth 100000

structure Off (T : List Nat) (w w' : World) : Prop where
  os : w'.os = w.os
  tape : w'.tape = w.tape
  output : w'.output = w.output
  size : w.heap.size ≤ w'.heap.size
  block : ∀ k, k < w.heap.size → k ∉ T → w'.heap[k]? = w.heap[k]?

section

variable {T T' : List Nat} {w w1 w' : World}
theorem Off.refl (T : List Nat) (w : World) : Off T w w := ⟨rfl, rfl, rfl, Nat.le_refl _, fun _ _ _ => rfl⟩
theorem Off.trans (h : Off T w w1) (k : Off T' w1 w') (hT : ∀ b ∈ T', b ∈ T ∨ w.heap.size ≤ b) : Off T w w' :=
  ⟨k.os.trans h.os, k.tape.trans h.tape, k.output.trans h.output, Nat.le_trans h.size k.size, fun b hb hn =>
    (k.block b (Nat.lt_of_lt_of_le hb h.size) (fun hm => (hT b hm).elim hn (fun hle => Nat.not_lt.2 hle hb))).trans (h.block b hb hn)⟩
theorem Off.more (h : Off T w w') (hT : ∀ b ∈ T, b ∈ T') : Off T' w w' := ⟨h.os, h.tape, h.output, h.size, fun b hb hn => h.block b hb (fun hm => hn (hT b hm))⟩
theorem Off.of_below (h : Below w.heap.size w w') (T : List Nat) : Off T w w' := ⟨h.os, h.tape, h.output, h.size, fun b hb _ => h.block b hb⟩
theorem Off.below {B : Nat} (h : Off T w w') (hB : B ≤ w.heap.size) (hT : ∀ b ∈ T, B ≤ b) : Below B w w' :=
  ⟨h.os, h.tape, h.output, h.size, fun b hb => h.block b (Nat.lt_of_lt_of_le hb hB) (fun hm => Nat.not_lt.2 (hT b hm) hb)⟩
theorem Off.of_grown {row : Option Nat} (h : w.grownBy w' row) (hr : ∀ k, row = some k → k ∈ T ∨ w.heap.size ≤ k) : Off T w w' :=
  ⟨h.os, h.tape, h.output, h.size, fun b hb hn => h.block b hb (fun e => (hr b e.symm).elim hn (fun hle => Nat.not_lt.2 hle hb))⟩
theorem Off.alloc (h : Off T w w') (o : Obj) : Off T w (w'.alloc o) :=
  h.trans (T' := T) (.of_below ((Below.refl _ _).alloc (Nat.le_refl _) o) T) (fun _ hb => .inl hb)
theorem Off.drew (h : Off T w w') : Off T w w'.drew := ⟨h.os, h.tape, h.output, h.size, h.block⟩
theorem Off.drewN (h : Off T w w') (n : Nat) : Off T w (w'.drewN n) := ⟨h.os, h.tape, h.output, h.size, h.block⟩
theorem Off.cell (h : Off T w w') {a : Addr} {v : Value} (hc : w.cell? a = some v) (hb : a.block < w.heap.size) (hn : a.block ∉ T) : w'.cell? a = some v :=
  (World.cell?_of_block (h.block _ hb hn)).trans hc
theorem Off.frozen (h : Off T w w') {a : Addr} {v : Bool} (hc : w.frozen? a = v) (hb : a.block < w.heap.size) (hn : a.block ∉ T) : w'.frozen? a = v :=
  (World.frozen?_of_block (h.block _ hb hn)).trans hc
theorem Off.setCell (h : Off T w w') (p : Addr) (u : Value) (hp : p.block ∈ T ∨ w.heap.size ≤ p.block) : Off T w (w'.setCell p u) := by
  refine ⟨h.os, h.tape, h.output, by rw [setCell_size]; exact h.size, fun b hb hn => ?_⟩
  rw [← h.block b hb hn]
  have hne : b ≠ p.block := by
    rintro rfl
    exact hp.elim hn (fun hle => Nat.not_lt.2 hle hb)
  simp only [World.setCell, Array.getElem?_modify]
  rw [if_neg (fun e => hne e.symm)]
end

def Ir (T : List Nat) (w : World) (A : Option Addr) (xs : List Int) : Prop :=
  xs = [] ∨ ∃ b o, A = some ⟨b, o, none⟩ ∧ b < w.heap.size ∧ b ∉ T ∧ ∀ j, j < xs.length → w.cell? ⟨b, o + j, none⟩ = some (.int .i64 (xs.getD j 0))
theorem Ir.nil {T : List Nat} {w : World} {A : Option Addr} : Ir T w A [] := .inl rfl
theorem Ir.off {T S T' : List Nat} {w w' : World} {A : Option Addr} {xs : List Int} (h : Ir T w A xs) (hf : Off S w w') (hS : ∀ b ∈ S, b ∈ T ∨ w.heap.size ≤ b) (hT : ∀ b ∈ T', b ∈ T ∨ w.heap.size ≤ b) : Ir T' w' A xs := by
  rcases h with h | ⟨b, o, rfl, hb, hn, hc⟩
  · exact .inl h
  · refine .inr ⟨b, o, rfl, Nat.lt_of_lt_of_le hb hf.size, fun hm => (hT b hm).elim hn (fun hle => Nat.not_lt.2 hle hb), fun j hj => ?_⟩
    exact hf.cell (a := ⟨b, o + j, none⟩) (hc j hj) hb (fun hm => (hS b hm).elim hn (fun hle => Nat.not_lt.2 hle hb))
theorem Ir.more {T T' : List Nat} {w : World} {A : Option Addr} {xs : List Int} (h : Ir T w A xs) (hT : ∀ b ∈ T', b ∈ T ∨ w.heap.size ≤ b) : Ir T' w A xs := h.off (S := []) (.refl _ _) (by simp) hT

abbrev kl (s : ByteArray) : Lit := .string s.data.toList
structure Nm (D : DataW Unit) (es : List (ByteArray × Nat)) : Prop where
  has : ∀ s : ByteArray, Maps.has D (kl s) = es.any (fun e => e.1.data.toList == s.data.toList)
  at_ : ∀ i (h : i < es.length), D.atKey (kl es[i].1) (.lit (.int .i64 0)) = .lit (.int .i64 (i : Int))
  once : (es.map (fun e => e.1.data.toList)).Nodup
  small : ∀ e ∈ es, e.1.size ≤ maxLen

theorem Nm.nil : Nm (.map []) [] := ⟨fun s => rfl, fun i h => by simp at h, by simp, by simp⟩
theorem kl_ne {a b : ByteArray} (h : a.data.toList ≠ b.data.toList) : kl a ≠ kl b := fun e => h (by injection e)
theorem Nm.push {D : DataW Unit} {es : List (ByteArray × Nat)} (h : Nm D es) (hD : Maps.IsMap D) (s : ByteArray) (l : Nat) (hs : es.any (fun e => e.1.data.toList == s.data.toList) = false) (hz : s.size ≤ maxLen) :
    Nm (D.put (kl s) (.lit (.int .i64 (es.length : Int)))) (es ++ [(s, l)]) := by
  have hno : ∀ e ∈ es, e.1.data.toList ≠ s.data.toList := by
    intro e he
    have := List.any_eq_false.1 hs e he
    simpa using this
  refine ⟨fun x => ?_, fun i hi => ?_, ?_, fun e he => ?_⟩
  · by_cases hx : x.data.toList = s.data.toList
    · have : kl x = kl s := by unfold kl; rw [hx]
      rw [this, Maps.has_put_same hD (by simp [WideAt.IsKeyLit])]
      simp [hx]
    · rw [Maps.has_put_other (kl_ne hx), h.has]
      have : (s.data.toList == x.data.toList) = false := beq_eq_false_iff_ne.2 (fun e => hx e.symm)
      rw [List.any_append, List.any_cons, List.any_nil, this, Bool.or_false, Bool.or_false]
  · by_cases hl : i < es.length
    · rw [List.getElem_append_left hl, Maps.atKey_put_other (kl_ne (hno _ (List.getElem_mem hl)))]
      exact h.at_ i hl
    · have hi' : i = es.length := by simp at hi; omega
      subst hi'
      simp only [List.getElem_concat_length]
      exact Maps.atKey_put_same hD (by simp [WideAt.IsKeyLit]) _ _
  · rw [List.map_append, List.nodup_append]
    refine ⟨h.once, by simp, ?_⟩
    intro a ha b hb
    simp at hb
    subst hb
    simp only [List.mem_map] at ha
    obtain ⟨e, he, rfl⟩ := ha
    exact hno e he
  · rcases List.mem_append.1 he with he | he
    · exact h.small e he
    · simp at he
      subst he
      exact hz
end Nt

end Go.Proofs.YtgimmmmpollkhaaGreat

namespace Go.Proofs.YtgimmmmpollkhaaGreat

open Go.ChangeShapes Go.RowKit

open Go.Maps (Keyed string_keyed)

open Go.ChangeMaps Go.MapKept Go.WideMaps

namespace Nt
set_option maxRecDepth 100000

def Mp (w : World) (m : Option Nat) (N : Nat) (es : List (ByteArray × Nat)) : Prop :=
  (m = none ∧ es = []) ∨ ∃ b D, m = some b ∧ w.ownsMap Tryz.prog 9 (plainElem (H := Unit) Tryz.prog 3) b N D ∧ Nm D es
end Nt

end Go.Proofs.YtgimmmmpollkhaaGreat

namespace Go.Proofs.YtgimmmmpollkhaaGreat

open Go.ChangeShapes Go.RowKit

namespace Nt
set_option maxRecDepth 100000

theorem cell_in {w : World} {b o : Nat} {v : Value} (h : w.cell? ⟨b, o, none⟩ = some v) : b < w.heap.size := by
  unfold World.cell? at h
  rcases hb : w.heap[b]? with _ | x
  · simp [hb] at h
  · exact (Array.getElem?_eq_some_iff.1 hb).1
theorem Ir.al {T : List Nat} {w : World} {A : Option Addr} {xs : List Int} (h : Ir T w A xs) (x : Obj) : Ir [] (w.alloc x) A xs :=
  h.off ((Off.refl [] w).alloc x) (by simp) (by simp)

end Nt

end Go.Proofs.YtgimmmmpollkhaaGreat

namespace Go.Proofs.YtgimmmmpollkhaaGreat

open Go.ChangeShapes Go.RowKit

namespace Nt
set_option maxRecDepth 100000

def Bk (g : Nat) (cur : Array Value) (t : TypeId) (w : World) : Prop := w.heap[g]? = some (.cells cur t (0, 0))
section

variable {g : Nat} {cur : Array Value} {t : TypeId} {w w' : World}
theorem Bk.lt (h : Bk g cur t w) : g < w.heap.size := (Array.getElem?_eq_some_iff.1 h).1
theorem Bk.off {T : List Nat} (h : Bk g cur t w) (hf : Off T w w') (hn : g ∉ T) : Bk g cur t w' := (hf.block g h.lt hn).trans h
theorem Bk.next (h : Bk g cur t w) (hb : Below w.heap.size w w') : Bk g cur t w' := (hb.block g h.lt).trans h
theorem Bk.al (h : Bk g cur t w) (o : Obj) : Bk g cur t (w.alloc o) := h.next ((Below.refl _ _).alloc (Nat.le_refl _) o)
theorem Bk.new (cur : Array Value) (t : TypeId) (w : World) : Bk w.heap.size cur t (w.alloc (.cells cur t)) := heap_alloc_new w _
theorem Bk.new1 (cur : Array Value) (t : TypeId) (w : World) (o : Obj) : Bk (w.heap.size + 1) cur t ((w.alloc o).alloc (.cells cur t)) := by
  have := Bk.new cur t (w.alloc o)
  simpa using this
theorem Bk.set (h : Bk g cur t w) {j : Nat} {cur' : Array Value} (v : Value) (e : cur' = cur.setIfInBounds j v) : Bk g cur' t (w.setCell ⟨g, j, none⟩ v) := by
  unfold Bk at h ⊢
  subst e
  have hl := (Array.getElem?_eq_some_iff.1 h).1
  simp [World.setCell, Array.getElem?_modify, h]
theorem Bk.set_far (h : Bk g cur t w) (p : Addr) (v : Value) (hn : g ≠ p.block) : Bk g cur t (w.setCell p v) := by
  have := (Off.refl [p.block] w).setCell p v (.inl (by simp))
  exact h.off this (by simpa using hn)
theorem Bk.cell (h : Bk g cur t w) {j : Nat} {v : Value} (hv : cur[j]? = some v) : w.cell? ⟨g, j, none⟩ = some v := by
  rw [cell_of_row w g j cur t (0, 0) h]; exact hv
theorem Bk.free (h : Bk g cur t w) (j : Nat) : w.frozen? ⟨g, j, none⟩ = false := by
  unfold World.frozen?
  unfold Bk at h
  simp [h]
end

theorem wpList_append_run {P : Program} (w : World) {ops : Array Oper} {rest : List Oper} {o : Oper} {a : Act} {Q : Exit → Act → World → Prop} (hg : o.guard = none) (s x : Operand) (t : TypeId)
    (ho : o.op = .call { callee := .builtin .append, args := #[s, x], argTypes := #[t, t] }) (u v r : Value) (w' : World) (hs : a.eval s = u) (hx : a.eval x = v)
    (hrun : ∀ ty, (Builtin.append_ #[t, t] ty #[u, v]).run P w = .ok r w') (hK : wpList P ops Q rest (a.put o.dst r) w') : wpList P ops Q (o :: rest) a w := by
  refine wpList_plain hg fun K' hK' => ?_
  unfold Oper.wp execOp
  simp only [ho, resolve, invoke, builtin, Sem.run_bind, Sem.run_pure, Result.andThen_ok, List.map_toArray, List.map_cons, List.map_nil, hs, hx, hrun]
  exact hK' _ _ hK

end Nt

end Go.Proofs.YtgimmmmpollkhaaGreat

namespace Go.Proofs.YtgimmmmpollkhaaGreat

open Go.ChangeShapes Go.RowKit

open Go.ChangeMaps Go.MapKept Go.WideMaps

namespace Nt
end Nt

end Go.Proofs.YtgimmmmpollkhaaGreat

namespace Go.Proofs.YtgimmmmpollkhaaGreat

open Go.ChangeShapes Go.RowKit

open Go.ChangeMaps Go.MapKept Go.WideMaps

namespace Nt
set_option maxRecDepth 100000
set_option linter.unusedSimpArgs false
set_option linter.unusedVariables false

theorem Off.row {T : List Nat} {w w' : World} {base : Nat} {e : TypeId} {size : Nat} {v : Value} {n : Nat} {xs : List Value} (h : w.ownsRow base e size v n xs) (hf : Off T w w') (hn : ∀ k, v.ownBlock = some k → k ∉ T) : w'.ownsRow base e size v n xs := by
  refine ⟨h.1, ?_⟩
  rcases h.2 with h2 | ⟨g, cap, cur, rfl, h3, h4, h5⟩
  · exact .inl h2
  · exact .inr ⟨g, cap, cur, rfl, h3, (hf.block g (Array.getElem?_eq_some_iff.1 h4).1 (hn g rfl)).trans h4, h5⟩
theorem Off.map {T : List Nat} {w w' : World} {m : Option Nat} {N : Nat} {es : List (ByteArray × Nat)} (h : Mp w m N es) (hf : Off T w w') (hn : ∀ k, m = some k → k ∉ T) : Mp w' m N es := by
  rcases h with h | ⟨b, D, rfl, hown, hD⟩
  · exact .inl h
  · obtain ⟨en, cl, hb, hF⟩ := hown
    exact .inr ⟨b, D, rfl, ⟨en, cl, (hf.block b (Array.getElem?_eq_some_iff.1 hb).1 (hn b rfl)).trans hb, hF⟩, hD⟩
theorem Mp.mono {w : World} {m : Option Nat} {N N' : Nat} {es : List (ByteArray × Nat)} (h : Mp w m N es) (hN : N ≤ N') : Mp w m N' es := by
  rcases h with h | ⟨b, D, rfl, hown, hD⟩
  · exact .inl h
  · exact .inr ⟨b, D, rfl, hown.mono hN, hD⟩

theorem Off.less {T S : List Nat} {w w' : World} (h : Off S w w') (hS : ∀ b ∈ S, b ∈ T ∨ w.heap.size ≤ b) : Off T w w' :=
  (Off.refl T w).trans h hS

end Nt

end Go.Proofs.YtgimmmmpollkhaaGreat

namespace Go.Proofs.YtgimmmmpollkhaaGreat

open Go.ChangeShapes Go.RowKit

namespace Nt
set_option maxRecDepth 100000
variable {X : List Nat}
structure Fn where
  nm : ByteArray
  ar : List Int
  rs : Int
def Fs (T : List Nat) (w : World) : List Fn → List Value → Prop
  | [], vs => vs = []
  | f :: fs, vs => ∃ A c r, vs = .string f.nm :: .slice A f.ar.length c :: .int .i64 f.rs :: r ∧ Ir T w A f.ar ∧ f.ar.length ≤ 64 ∧ Fs T w fs r
theorem Fs.off {T S T' : List Nat} {w w' : World} (hf : Off S w w') (hS : ∀ b ∈ S, b ∈ T ∨ w.heap.size ≤ b) (hT : ∀ b ∈ T', b ∈ T ∨ w.heap.size ≤ b) : ∀ {fs : List Fn} {vs : List Value}, Fs T w fs vs → Fs T' w' fs vs
  | [], _, h => h
  | _ :: _, _, ⟨A, c, r, e, h1, h2, h3⟩ => ⟨A, c, r, e, h1.off hf hS hT, h2, Fs.off hf hS hT h3⟩
end Nt

end Go.Proofs.YtgimmmmpollkhaaGreat

namespace Go.Proofs.YtgimmmmpollkhaaGreat

open Go.ChangeShapes Go.RowKit

namespace Nt
set_option maxRecDepth 100000
variable {X : List Nat}
theorem Fs.length {T : List Nat} {w : World} : ∀ {fs : List Fn} {vs : List Value}, Fs T w fs vs → vs.length = fs.length * 3
  | [], _, h => by cases h; rfl
  | _ :: fs, _, ⟨A, c, r, e, _, _, h⟩ => by
    rw [e]
    have := Fs.length h
    simp only [List.length_cons, this]
    omega
end Nt

end Go.Proofs.YtgimmmmpollkhaaGreat

namespace Go.Proofs.YtgimmmmpollkhaaGreat

open Go.ChangeShapes Go.RowKit

namespace Nt
set_option maxRecDepth 100000
variable {X : List Nat}
end Nt

end Go.Proofs.YtgimmmmpollkhaaGreat

namespace Go.Proofs.YtgimmmmpollkhaaGreat

open Go.ChangeShapes Go.RowKit

namespace Nt
set_option maxRecDepth 100000
variable {X : List Nat}
end Nt

end Go.Proofs.YtgimmmmpollkhaaGreat

namespace Go.Proofs.YtgimmmmpollkhaaGreat

open Go.ChangeShapes Go.RowKit

namespace Nt
set_option maxRecDepth 100000
variable {X : List Nat}
set_option linter.unusedSimpArgs false
set_option linter.unusedVariables false

theorem Fs.get {T : List Nat} {w : World} : ∀ {fs : List Fn} {vs : List Value} (_ : Fs T w fs vs) (i : Nat) (hi : i < fs.length), ∃ A c, vs[i * 3]? = some (.string fs[i].nm) ∧ vs[i * 3 + 1]? = some (.slice A fs[i].ar.length c) ∧ vs[i * 3 + 2]? = some (.int .i64 fs[i].rs) ∧ Ir T w A fs[i].ar ∧ fs[i].ar.length ≤ 64
  | f :: fs, _, ⟨A, c, r, e, h1, h2, _⟩, 0, _ => by subst e; exact ⟨A, c, rfl, rfl, rfl, h1, h2⟩
  | f :: fs, _, ⟨A', c', r, e, _, _, h3⟩, i + 1, hi => by
    subst e
    obtain ⟨A, c, q0, q1, q2, q3, q4⟩ := Fs.get h3 i (by simpa using hi)
    have e0 : (i + 1) * 3 = i * 3 + 1 + 1 + 1 := by omega
    have e1 : (i + 1) * 3 + 1 = i * 3 + 1 + 1 + 1 + 1 := by omega
    have e2 : (i + 1) * 3 + 2 = i * 3 + 2 + 1 + 1 + 1 := by omega
    refine ⟨A, c, ?_, ?_, ?_, by simpa using q3, by simpa using q4⟩
    · rw [e0]; simpa using q0
    · rw [e1]; simpa using q1
    · rw [e2]; simpa using q2

end Nt

end Go.Proofs.YtgimmmmpollkhaaGreat
