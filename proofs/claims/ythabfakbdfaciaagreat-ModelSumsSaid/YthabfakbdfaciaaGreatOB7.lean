import Derived.WalkKit
import Derived.WalkSpells
import Derived.Deep.Draws
import Derived.Test.YthabfakbdfaciaaGreatOB0
import Derived.Test.YthabfakbdfaciaaGreatProg
import Derived.Maps.OwnSet
import Derived.StringKeys
import Derived.OwnWalk
import Derived.Laws.AppendOwn
import Derived.Maps.AppendAt
import Derived.Deep.RegionHeld3
import Derived.Test.YthabfakbdfaciaaGreatShs
namespace Go.Proofs.YthabfakbdfaciaaGreat
namespace Nt
set_option linter.unusedSimpArgs false
set_option linter.unusedVariables false
set_option maxRecDepth 100000
set_option maxHeartbeats 16000000
section
open Go.ChangeShapes Go.RowKit
def resL : List (List UInt8) := [[116, 114, 117, 101], [102, 97, 108, 115, 101], [110, 111, 116], [97, 110, 100], [111, 114], [61, 62], [120, 111, 114], [61], [100, 105, 115, 116, 105, 110, 99, 116], [105, 116, 101], [108, 101, 116], [43], [45], [42], [47], [60, 61], [60], [62, 61], [62], [66, 111, 111, 108], [82, 101, 97, 108], [95], [33], [97, 115], [101, 120, 105, 115, 116, 115], [102, 111, 114, 97, 108, 108], [112, 97, 114]]
def resB (s : ByteArray) : Bool := resL.contains s.data.toList
theorem eql_s (t : TypeId) (a b : ByteArray) : binOp .eql t (.string a) (.string b) = pure (.bool (a.data.toList == b.data.toList)) := by
  rw [binOp_string_eql, ByteArray.toList_eq, ByteArray.toList_eq]
theorem reserved_any (s : ByteArray) (w : World) : Calls Tryz.prog 67 #[.string s] w fun e w' => e = .returned (.bool (resB s)) ∧ w' = w := by
  obtain ⟨l, hl⟩ : ∃ l, l = s.data.toList := ⟨_, rfl⟩
  have e1 : ∀ b : ByteArray, binOp .eql 9 (.string s) (.string b) = pure (.bool (l == b.data.toList)) := fun b => by rw [eql_s, hl]
  have hr : resB s = resL.contains l := by rw [hl]; rfl
  rw [hr]
  clear hr hl
  obtain ⟨x, hx⟩ : ∃ x, x = resL.contains l := ⟨_, rfl⟩
  rw [← hx]
  have hx := hide hx
  go_enter Tryz.func67, Tryz.ntmps67
  go_wp2
  all_goals first
    | (exfalso; simp_all; done)
    | (have h0 : x = true := by (have h1 := hx.out; simp_all [resL]; done)
       subst h0; go_ret; exact ⟨rfl, rfl⟩)
    | (have h0 : x = false := by (have h1 := hx.out; simp_all [resL]; done)
       subst h0; go_ret; exact ⟨rfl, rfl⟩)
structure Off (T : List Nat) (w w' : World) : Prop where
  os : w'.os = w.os
  tape : w'.tape = w.tape
  output : w'.output = w.output
  size : w.heap.size ≤ w'.heap.size
  block : ∀ k, k < w.heap.size → k ∉ T → w'.heap[k]? = w.heap[k]?
section
variable {T T' : List Nat} {w w1 w' : World}
theorem Off.refl (T : List Nat) (w : World) : Off T w w := ⟨rfl, rfl, rfl, Nat.le_refl _, fun _ _ _ => rfl⟩
theorem Off.trans (h : Off T w w1) (k : Off T' w1 w') (hT : ∀ b ∈ T', b ∈ T ∨ w.heap.size ≤ b) : Off T w w' :=
  ⟨k.os.trans h.os, k.tape.trans h.tape, k.output.trans h.output, Nat.le_trans h.size k.size, fun b hb hn =>
    (k.block b (Nat.lt_of_lt_of_le hb h.size) (fun hm => (hT b hm).elim hn (fun hle => Nat.not_lt.2 hle hb))).trans (h.block b hb hn)⟩
theorem Off.more (h : Off T w w') (hT : ∀ b ∈ T, b ∈ T') : Off T' w w' := ⟨h.os, h.tape, h.output, h.size, fun b hb hn => h.block b hb (fun hm => hn (hT b hm))⟩
theorem Off.of_below (h : Below w.heap.size w w') (T : List Nat) : Off T w w' := ⟨h.os, h.tape, h.output, h.size, fun b hb _ => h.block b hb⟩
theorem Off.below {B : Nat} (h : Off T w w') (hB : B ≤ w.heap.size) (hT : ∀ b ∈ T, B ≤ b) : Below B w w' :=
  ⟨h.os, h.tape, h.output, h.size, fun b hb => h.block b (Nat.lt_of_lt_of_le hb hB) (fun hm => Nat.not_lt.2 (hT b hm) hb)⟩
theorem Off.of_grown {row : Option Nat} (h : w.grownBy w' row) (hr : ∀ k, row = some k → k ∈ T ∨ w.heap.size ≤ k) : Off T w w' :=
  ⟨h.os, h.tape, h.output, h.size, fun b hb hn => h.block b hb (fun e => (hr b e.symm).elim hn (fun hle => Nat.not_lt.2 hle hb))⟩
theorem Off.alloc (h : Off T w w') (o : Obj) : Off T w (w'.alloc o) :=
  h.trans (T' := T) (.of_below ((Below.refl _ _).alloc (Nat.le_refl _) o) T) (fun _ hb => .inl hb)
theorem Off.drew (h : Off T w w') : Off T w w'.drew := ⟨h.os, h.tape, h.output, h.size, h.block⟩
theorem Off.drewN (h : Off T w w') (n : Nat) : Off T w (w'.drewN n) := ⟨h.os, h.tape, h.output, h.size, h.block⟩
theorem Off.cell (h : Off T w w') {a : Addr} {v : Value} (hc : w.cell? a = some v) (hb : a.block < w.heap.size) (hn : a.block ∉ T) : w'.cell? a = some v :=
  (World.cell?_of_block (h.block _ hb hn)).trans hc
theorem Off.setCell (h : Off T w w') (p : Addr) (u : Value) (hp : p.block ∈ T ∨ w.heap.size ≤ p.block) : Off T w (w'.setCell p u) := by
  refine ⟨h.os, h.tape, h.output, by rw [setCell_size]; exact h.size, fun b hb hn => ?_⟩
  rw [← h.block b hb hn]
  have hne : b ≠ p.block := by
    rintro rfl
    exact hp.elim hn (fun hle => Nat.not_lt.2 hle hb)
  simp only [World.setCell, Array.getElem?_modify]
  rw [if_neg (fun e => hne e.symm)]
end
def Ir (T : List Nat) (w : World) (A : Option Addr) (xs : List Int) : Prop :=
  xs = [] ∨ ∃ b o, A = some ⟨b, o, none⟩ ∧ b < w.heap.size ∧ b ∉ T ∧ ∀ j, j < xs.length → w.cell? ⟨b, o + j, none⟩ = some (.int .i64 (xs.getD j 0))
theorem Ir.nil {T : List Nat} {w : World} {A : Option Addr} : Ir T w A [] := .inl rfl
theorem Ir.off {T S T' : List Nat} {w w' : World} {A : Option Addr} {xs : List Int} (h : Ir T w A xs) (hf : Off S w w') (hS : ∀ b ∈ S, b ∈ T ∨ w.heap.size ≤ b) (hT : ∀ b ∈ T', b ∈ T ∨ w.heap.size ≤ b) : Ir T' w' A xs := by
  rcases h with h | ⟨b, o, rfl, hb, hn, hc⟩
  · exact .inl h
  · refine .inr ⟨b, o, rfl, Nat.lt_of_lt_of_le hb hf.size, fun hm => (hT b hm).elim hn (fun hle => Nat.not_lt.2 hle hb), fun j hj => ?_⟩
    exact hf.cell (a := ⟨b, o + j, none⟩) (hc j hj) hb (fun hm => (hS b hm).elim hn (fun hle => Nat.not_lt.2 hle hb))
theorem Ir.more {T T' : List Nat} {w : World} {A : Option Addr} {xs : List Int} (h : Ir T w A xs) (hT : ∀ b ∈ T', b ∈ T ∨ w.heap.size ≤ b) : Ir T' w A xs := h.off (S := []) (.refl _ _) (by simp) hT
abbrev kl (s : ByteArray) : Lit := .string s.data.toList
structure Nm (D : DataW Unit) (es : List (ByteArray × Nat)) : Prop where
  has : ∀ s : ByteArray, Maps.has D (kl s) = es.any (fun e => e.1.data.toList == s.data.toList)
  at_ : ∀ i (h : i < es.length), D.atKey (kl es[i].1) (.lit (.int .i64 0)) = .lit (.int .i64 (i : Int))
  once : (es.map (fun e => e.1.data.toList)).Nodup
  small : ∀ e ∈ es, e.1.size ≤ maxLen
theorem Nm.nil : Nm (.map []) [] := ⟨fun s => rfl, fun i h => by simp at h, by simp, by simp⟩
theorem kl_ne {a b : ByteArray} (h : a.data.toList ≠ b.data.toList) : kl a ≠ kl b := fun e => h (by injection e)
theorem Nm.push {D : DataW Unit} {es : List (ByteArray × Nat)} (h : Nm D es) (hD : Maps.IsMap D) (s : ByteArray) (l : Nat) (hs : es.any (fun e => e.1.data.toList == s.data.toList) = false) (hz : s.size ≤ maxLen) :
    Nm (D.put (kl s) (.lit (.int .i64 (es.length : Int)))) (es ++ [(s, l)]) := by
  have hno : ∀ e ∈ es, e.1.data.toList ≠ s.data.toList := by
    intro e he
    have := List.any_eq_false.1 hs e he
    simpa using this
  refine ⟨fun x => ?_, fun i hi => ?_, ?_, fun e he => ?_⟩
  · by_cases hx : x.data.toList = s.data.toList
    · have : kl x = kl s := by unfold kl; rw [hx]
      rw [this, Maps.has_put_same hD (by simp [WideAt.IsKeyLit])]
      simp [hx]
    · rw [Maps.has_put_other (kl_ne hx), h.has]
      have : (s.data.toList == x.data.toList) = false := beq_eq_false_iff_ne.2 (fun e => hx e.symm)
      rw [List.any_append, List.any_cons, List.any_nil, this, Bool.or_false, Bool.or_false]
  · by_cases hl : i < es.length
    · rw [List.getElem_append_left hl, Maps.atKey_put_other (kl_ne (hno _ (List.getElem_mem hl)))]
      exact h.at_ i hl
    · have hi' : i = es.length := by simp at hi; omega
      subst hi'
      simp only [List.getElem_concat_length]
      exact Maps.atKey_put_same hD (by simp [WideAt.IsKeyLit]) _ _
  · rw [List.map_append, List.nodup_append]
    refine ⟨h.once, by simp, ?_⟩
    intro a ha b hb
    simp at hb
    subst hb
    simp only [List.mem_map] at ha
    obtain ⟨e, he, rfl⟩ := ha
    exact hno e he
  · rcases List.mem_append.1 he with he | he
    · exact h.small e he
    · simp at he
      subst he
      exact hz
open Go.Maps (Keyed string_keyed)
open Go.ChangeMaps Go.MapKept Go.WideMaps
theorem lawS : Keyed Tryz.prog 9 := string_keyed Tryz.underlying9
theorem zeroI (w : World) : (zeroValue 3).run Tryz.prog w = .ok (.int .i64 0) w := by kernel_rfl
def ecs (es : List (ByteArray × Nat)) : List Value := es.flatMap fun e => [.string e.1, .int .i64 (e.2 : Int)]
def Mp (w : World) (m : Option Nat) (N : Nat) (es : List (ByteArray × Nat)) : Prop :=
  (m = none ∧ es = []) ∨ ∃ b D, m = some b ∧ w.ownsMap Tryz.prog 9 (plainElem (H := Unit) Tryz.prog 3) b N D ∧ Nm D es
structure Stk (w : World) (v : Value) (m : Option Nat) (N : Nat) (es : List (ByteArray × Nat)) : Prop where
  row : w.ownsRow 0 133 2 v es.length (ecs es)
  map : Mp w m N es
  le : es.length ≤ N
def hasB (es : List (ByteArray × Nat)) (s : ByteArray) : Bool := es.any (fun e => e.1.data.toList == s.data.toList)
def bks (v : Value) (m : Option Nat) : List Nat := v.ownBlock.toList ++ m.toList
theorem place_any (p o : Nat) (m : Option Nat) (N : Nat) (es : List (ByteArray × Nat)) (s : ByteArray) (w : World) (hm : w.cell? ⟨p, o + 1, none⟩ = some (.map m)) (h : Mp w m N es) (hs : s.size ≤ maxLen) :
    Calls Tryz.prog 68 #[.pointer (some ⟨p, o, none⟩), .string s] w fun e w' => ∃ c : Int, e = .returned (.tuple #[.int .i64 c, .bool (hasB es s)]) ∧ (∀ i (h : i < es.length), es[i].1.data.toList = s.data.toList → c = (i : Int)) ∧ w = w' := by
  have hkey : keyOf Tryz.prog 9 (.string s) = some (kl s) := keyOf_string_mk Tryz.underlying9 hs
  obtain ⟨c, hrun, hc⟩ : ∃ c : Int, (Instr.lookup 88 (.map m) (.string s) true).run Tryz.prog w = .ok (.tuple #[.int .i64 c, .bool (hasB es s)]) w ∧ (∀ i (h : i < es.length), es[i].1.data.toList = s.data.toList → c = (i : Int)) := by
    rcases h with ⟨rfl, rfl⟩ | ⟨b, D, rfl, hown, hn⟩
    · exact ⟨0, Maps.look_nil true lawS Tryz.underlying88 (zeroI w) hkey, fun i hi => by simp at hi⟩
    · obtain ⟨v, ps, hrun, hv⟩ := hown.look_ok lawS Tryz.underlying88 (zeroI w) (plainElem_int (q := .i64) Tryz.underlying3 (by decide)) hkey
      obtain ⟨c, rfl, hc, _⟩ := plainElem_int_inv Tryz.underlying3 hv
      rw [hn.has] at hrun
      refine ⟨c, hrun, fun i hi he => ?_⟩
      have h1 := hn.at_ i hi
      have e : kl es[i].1 = kl s := by unfold kl; rw [he]
      rw [e] at h1
      have h2 := congrArg Prod.fst hc
      simp only at h2
      rw [h1] at h2
      injection h2 with h3
      injection h3 with _ h4
      exact h4.symm
  generalize hasB es s = x at hrun ⊢
  have hc := hide hc
  clear h hkey hs
  go_enter Tryz.func68, Tryz.ntmps68
  go_wp2
  go_ret2
  exact ⟨c, rfl, hc.out, rfl⟩
theorem len_any (p o n c : Nat) (A : Option Addr) (w : World) (hv : w.cell? ⟨p, o, none⟩ = some (.slice A n c)) :
    Calls Tryz.prog 43 #[.pointer (some ⟨p, o, none⟩)] w fun e w' => e = .returned (.int .i64 (n : Int)) ∧ w = w' := by
  go_enter Tryz.func43, Tryz.ntmps43
  go_wp2
  go_ret
  exact ⟨rfl, rfl⟩
def knownB (n : Nat) (x : Int) : Bool := decide (0 ≤ x) && decide (x < (n : Int) + 2)
theorem known_any (p n c : Nat) (A : Option Addr) (x : Int) (w : World) (hv : w.cell? ⟨p, 1, none⟩ = some (.slice A n c)) (hn : n ≤ 1000000) :
    Calls Tryz.prog 71 #[.pointer (some ⟨p, 0, none⟩), .int .i64 x] w fun e w' => e = .returned (.bool (knownB n x)) ∧ w = w' := by
  have hlen := len_any p 1 n c A w hv
  have go : ∀ b, knownB n x = b → Calls Tryz.prog 71 #[.pointer (some ⟨p, 0, none⟩), .int .i64 x] w fun e w' => e = .returned (.bool b) ∧ w = w' := by
    intro b hb
    by_cases h1 : 0 ≤ x
    · by_cases h2 : x < (n : Int) + 2
      · have : b = true := by rw [← hb]; simp [knownB, h1, h2]
        subst this
        clear hb
        go_enter Tryz.func71, Tryz.ntmps71
        go_wp2_with (go_at_call 43; refine hlen.mono ?_; rintro e w' ⟨rfl, rfl⟩)
        go_ret
        exact ⟨rfl, rfl⟩
      · have : b = false := by rw [← hb]; simp [knownB, h1, h2]
        subst this
        clear hb
        have h3 : decide (x < (n : Int) + 2) = false := decide_eq_false h2
        go_enter Tryz.func71, Tryz.ntmps71
        go_wp2_with (go_at_call 43; refine hlen.mono ?_; rintro e w' ⟨rfl, rfl⟩)
        go_ret
        exact ⟨rfl, rfl⟩
    · have : b = false := by rw [← hb]; simp [knownB, h1]
      subst this
      clear hb
      go_enter Tryz.func71, Tryz.ntmps71
      go_wp2
      go_ret
      exact ⟨rfl, rfl⟩
  exact go _ rfl
def nameB (s : ByteArray) : Bool := decide (1 ≤ s.size) && decide (s.size ≤ 200) && !resB s
def freeB (es : List (ByteArray × Nat)) (s : ByteArray) : Bool := nameB s && !hasB es s
theorem free_any (p o : Nat) (m : Option Nat) (N : Nat) (es : List (ByteArray × Nat)) (s : ByteArray) (w : World) (hm : w.cell? ⟨p, o + 1, none⟩ = some (.map m)) (h : Mp w m N es) (hs : s.size ≤ maxLen) :
    Calls Tryz.prog 42 #[.string s, .pointer (some ⟨p, o, none⟩)] w fun e w' => e = .returned (.bool (freeB es s)) ∧ w = w' := by
  have hp := place_any p o m N es s w hm h hs
  have hr := reserved_any s w
  have go : ∀ b, freeB es s = b → Calls Tryz.prog 42 #[.string s, .pointer (some ⟨p, o, none⟩)] w fun e w' => e = .returned (.bool b) ∧ w = w' := by
    intro b hb
    by_cases h0 : s.size = 0
    · have hl : s.data.toList = [] := by
        have : s.data.toList.length = 0 := by simpa using h0
        exact List.eq_nil_of_length_eq_zero this
      have e1 : binOp .eql 9 (.string s) (.string ⟨#[]⟩) = pure (.bool true) := by rw [eql_s, hl]; rfl
      have : b = false := by rw [← hb]; simp [freeB, nameB, h0]
      subst this
      clear hb h hm hp hr hl h0 hs
      go_enter Tryz.func42, Tryz.ntmps42
      go_wp2
      go_ret
      exact ⟨rfl, rfl⟩
    · have e1 : binOp .eql 9 (.string s) (.string ⟨#[]⟩) = pure (.bool false) := by
        rw [eql_s, beq_eq_false_iff_ne.2]
        intro e
        apply h0
        have := congrArg List.length e
        simpa using this
      have hs2 : s.size ≤ 9223372036854775807 := by unfold maxLen at hs; omega
      by_cases h1 : s.size ≤ 200
      · cases h2 : resB s
        · rw [h2] at hr
          have : b = !hasB es s := by
            rw [← hb]
            have : 1 ≤ s.size := by omega
            simp [freeB, nameB, this, h1, h2]
          subst this
          clear hb h hm h2 hs
          generalize hasB es s = y at hp ⊢
          go_enter Tryz.func42, Tryz.ntmps42
          go_wp2_with first
            | (go_at_call 67; refine hr.mono ?_; rintro e w' ⟨rfl, rfl⟩)
            | (go_at_call 68; refine hp.mono ?_; rintro e w' ⟨c, rfl, hc, rfl⟩)
          go_ret
          exact ⟨rfl, rfl⟩
        · rw [h2] at hr
          have : b = false := by rw [← hb]; simp [freeB, nameB, h2]
          subst this
          clear hb h hm h2 hp hs
          go_enter Tryz.func42, Tryz.ntmps42
          go_wp2_with (go_at_call 67; refine hr.mono ?_; rintro e w' ⟨rfl, rfl⟩)
          go_ret
          exact ⟨rfl, rfl⟩
      · have : b = false := by rw [← hb]; simp [freeB, nameB, h1]
        subst this
        clear hb h hm hp hr hs
        go_enter Tryz.func42, Tryz.ntmps42
        go_wp2
        go_ret
        exact ⟨rfl, rfl⟩
  exact go _ rfl
theorem cell_in {w : World} {b o : Nat} {v : Value} (h : w.cell? ⟨b, o, none⟩ = some v) : b < w.heap.size := by
  unfold World.cell? at h
  rcases hb : w.heap[b]? with _ | x
  · simp [hb] at h
  · exact (Array.getElem?_eq_some_iff.1 hb).1
theorem cell_al {w : World} {b o : Nat} {v : Value} (h : w.cell? ⟨b, o, none⟩ = some v) (x : Obj) : (w.alloc x).cell? ⟨b, o, none⟩ = some v :=
  ((Off.refl [] w).alloc x).cell h (cell_in h) (by simp)
theorem Ir.al {T : List Nat} {w : World} {A : Option Addr} {xs : List Int} (h : Ir T w A xs) (x : Obj) : Ir [] (w.alloc x) A xs :=
  h.off ((Off.refl [] w).alloc x) (by simp) (by simp)
def argB (n : Nat) (x : Int) : Bool := decide (x ≠ 0) && knownB n x
def typedB (n : Nat) (ar : List Int) (rs : Int) : Bool := decide (ar.length ≤ 64) && knownB n rs && ar.all (argB n)
theorem all_step {n : Nat} {ar : List Int} {k : Nat} (hk : k < ar.length) (h : (ar.take k).all (argB n) = true) (hx : argB n (ar.getD k 0) = true) : (ar.take (k + 1)).all (argB n) = true := by
  rw [List.take_add_one, List.all_append, h, List.getElem?_eq_getElem hk]
  have : ar.getD k 0 = ar[k] := by simp [List.getD, List.getElem?_eq_getElem hk]
  rw [this] at hx
  simp [hx]
theorem all_stop {n : Nat} {ar : List Int} {k : Nat} (hk : k < ar.length) (hx : argB n (ar.getD k 0) = false) : ar.all (argB n) = false := by
  have : ar.getD k 0 = ar[k] := by simp [List.getD, List.getElem?_eq_getElem hk]
  rw [this] at hx
  exact List.all_eq_false.2 ⟨ar[k], List.getElem_mem hk, by simp [hx]⟩
theorem typed_any (p n c : Nat) (A B : Option Addr) (nm : ByteArray) (ar : List Int) (d : Nat) (rs : Int) (T : List Nat) (w : World) (hv : w.cell? ⟨p, 1, none⟩ = some (.slice A n c)) (hn : n ≤ 1000000) (hi : Ir T w B ar)
    (hl : ar.length ≤ 9223372036854775807) :
    Calls Tryz.prog 47 #[.pointer (some ⟨p, 0, none⟩), .agg #[.string nm, .slice B ar.length d, .int .i64 rs]] w fun e w' => e = .returned (.bool (typedB n ar rs)) ∧ Below w.heap.size w w' := by
  have hkn : ∀ (o : Obj) (x : Int), Calls Tryz.prog 71 #[.pointer (some ⟨p, 0, none⟩), .int .i64 x] (w.alloc o) fun e w' => e = .returned (.bool (knownB n x)) ∧ w.alloc o = w' :=
    fun o x => known_any p n c A x _ (cell_al hv o) hn
  have hbl : ∀ o : Obj, Below w.heap.size w (w.alloc o) := fun o => (Below.refl _ _).alloc (Nat.le_refl _) o
  have go : ∀ b, typedB n ar rs = b → Calls Tryz.prog 47 #[.pointer (some ⟨p, 0, none⟩), .agg #[.string nm, .slice B ar.length d, .int .i64 rs]] w fun e w' => e = .returned (.bool b) ∧ Below w.heap.size w w' := by
    intro b hb
    by_cases h1 : ar.length ≤ 64
    · cases h2 : knownB n rs
      · have : b = false := by rw [← hb]; simp [typedB, h2]
        subst this
        clear hb
        have h3 := fun o => hkn o rs
        rw [h2] at h3
        clear hkn hi h2 hv
        generalize ar.length = m at *
        go_enter Tryz.func47, Tryz.ntmps47
        go_wp2_with (go_at_call 71; refine (h3 _).mono ?_; rintro e w' ⟨rfl, rfl⟩)
        go_ret
        exact ⟨rfl, hbl _⟩
      · have hb2 : b = ar.all (argB n) := by rw [← hb]; simp [typedB, h1, h2]
        have h3 := fun o => hkn o rs
        rw [h2] at h3
        have hb3 := hide hb2
        clear hb hb2 h2 hv
        have hcl : ∀ o : Obj, Ir [] (w.alloc o) B ar := fun o => hi.al o
        clear hi
        obtain ⟨m, hm⟩ : ∃ m, m = ar.length := ⟨_, rfl⟩
        rw [← hm]
        have hm2 := hide hm
        rw [← hm] at h1 hl
        clear hm
        go_enter Tryz.func47, Tryz.ntmps47
        go_wp2_with (go_at_call 71; refine (h3 _).mono ?_; rintro e w' ⟨rfl, rfl⟩)
        go_loop [21] (fun i => ∃ k : Nat, k ≤ m ∧ i = .int .i64 (k : Int) ∧ (ar.take k).all (argB n) = true) (fun i => m - (intOf i).toNat)
        case atStart => exact ⟨0, Nat.zero_le _, rfl, rfl⟩
        case round =>
          obtain ⟨k, hk, rfl, hall⟩ := hrel
          by_cases hlt : k < m
          · have hcell := hcl (.cells #[.string nm, .slice B m d, .int .i64 rs] 59)
            rcases hcell with he | ⟨b', o, rfl, _, _, hc⟩
            · rw [he] at hm2; have := hm2.out; simp at this; omega
            have hc := hc k (by rw [← hm2.out]; exact hlt)
            have hst := hide (all_step (n := n) (k := k) (by rw [← hm2.out]; exact hlt) hall)
            have hsp := hide (all_stop (n := n) (ar := ar) (k := k) (by rw [← hm2.out]; exact hlt))
            clear hall
            generalize ar.getD k 0 = x at *
            by_cases hx : x = 0
            · subst hx
              have hf : ar.all (argB n) = false := hsp.out (by simp [argB])
              have : b = false := by rw [hb3.out, hf]
              subst this
              go_wp2
              go_ret
              exact ⟨rfl, hbl _⟩
            · have hx2 : ((x : Int) == 0) = false := by simpa using hx
              have h4 := fun o => hkn o x
              cases hkx : knownB n x
              · have hf : ar.all (argB n) = false := hsp.out (by simp [argB, hkx])
                have : b = false := by rw [hb3.out, hf]
                subst this
                rw [hkx] at h4
                clear hkn h3
                go_wp2_with (go_at_call 71; refine (h4 _).mono ?_; rintro e w' ⟨rfl, rfl⟩)
                go_ret
                exact ⟨rfl, hbl _⟩
              · have hnx := hide (hst.out (by simp [argB, hkx, hx]))
                rw [hkx] at h4
                clear hkn h3
                go_wp2_with (go_at_call 71; refine (h4 _).mono ?_; rintro e w' ⟨rfl, rfl⟩)
                go_round
                case rel => exact ⟨k + 1, hlt, rfl, hnx.out⟩
                case measure => simp only [intOf]; omega
          · have hkm : k = m := by omega
            subst hkm
            have : b = true := by
              rw [hb3.out, ← hall, hm2.out, List.take_length]
            subst this
            clear hall hkn h3
            go_wp2
            go_ret
            exact ⟨rfl, hbl _⟩
    · have : b = false := by rw [← hb]; simp [typedB, h1]
      subst this
      clear hb hkn hi hv
      generalize ar.length = m at *
      go_enter Tryz.func47, Tryz.ntmps47
      go_wp2
      go_ret
      exact ⟨rfl, hbl _⟩
  exact go _ rfl
def Bk (g : Nat) (cur : Array Value) (t : TypeId) (w : World) : Prop := w.heap[g]? = some (.cells cur t (0, 0))
section
variable {g : Nat} {cur : Array Value} {t : TypeId} {w w' : World}
theorem Bk.lt (h : Bk g cur t w) : g < w.heap.size := (Array.getElem?_eq_some_iff.1 h).1
theorem Bk.off {T : List Nat} (h : Bk g cur t w) (hf : Off T w w') (hn : g ∉ T) : Bk g cur t w' := (hf.block g h.lt hn).trans h
theorem Bk.next (h : Bk g cur t w) (hb : Below w.heap.size w w') : Bk g cur t w' := (hb.block g h.lt).trans h
theorem Bk.al (h : Bk g cur t w) (o : Obj) : Bk g cur t (w.alloc o) := h.next ((Below.refl _ _).alloc (Nat.le_refl _) o)
theorem Bk.new (cur : Array Value) (t : TypeId) (w : World) : Bk w.heap.size cur t (w.alloc (.cells cur t)) := heap_alloc_new w _
theorem Bk.new1 (cur : Array Value) (t : TypeId) (w : World) (o : Obj) : Bk (w.heap.size + 1) cur t ((w.alloc o).alloc (.cells cur t)) := by
  have := Bk.new cur t (w.alloc o)
  simpa using this
theorem Bk.set (h : Bk g cur t w) {j : Nat} {cur' : Array Value} (v : Value) (e : cur' = cur.setIfInBounds j v) : Bk g cur' t (w.setCell ⟨g, j, none⟩ v) := by
  unfold Bk at h ⊢
  subst e
  have hl := (Array.getElem?_eq_some_iff.1 h).1
  simp [World.setCell, Array.getElem?_modify, h]
theorem Bk.set_far (h : Bk g cur t w) (p : Addr) (v : Value) (hn : g ≠ p.block) : Bk g cur t (w.setCell p v) := by
  have := (Off.refl [p.block] w).setCell p v (.inl (by simp))
  exact h.off this (by simpa using hn)
theorem Bk.cell (h : Bk g cur t w) {j : Nat} {v : Value} (hv : cur[j]? = some v) : w.cell? ⟨g, j, none⟩ = some v := by
  rw [cell_of_row w g j cur t (0, 0) h]; exact hv
theorem Bk.free (h : Bk g cur t w) (j : Nat) : w.frozen? ⟨g, j, none⟩ = false := by
  unfold World.frozen?
  unfold Bk at h
  simp [h]
end
theorem app_ints (w : World) (ty : TypeId) (B : Option Addr) (d : Nat) (ar : List Int) (T : List Nat) (hi : Ir T w B ar) (hl : ar.length ≤ 1000000) :
    ∃ A c w', (Builtin.append_ #[57, 57] ty #[.slice none 0 0, .slice B ar.length d]).run Tryz.prog w = .ok (.slice A ar.length c) w' ∧ (∀ S : List Nat, (∀ b ∈ S, b < w.heap.size) → Ir S w' A ar) ∧ Below w.heap.size w w' := by
  obtain ⟨i, hinf, hz, h1, h8⟩ := info_parts (P := Tryz.prog) (e := 3) (z := .int .i64 0) (size := 1) (bytes := 8) (by kernel_rfl)
  rcases hi with rfl | ⟨b, o, rfl, hb, _, hc⟩
  · refine ⟨none, 0, w, ?_, fun _ _ => .nil, .refl _ _⟩
    cases B <;> simp [Builtin.append_, run_underlying Tryz.underlying57, sizeOf, typeInfo, hinf, Builtin.lenOf, Builtin.firstCells, loadCells, loadCellsFrom]
  · have hcells : ∀ j u, (ar.map (fun x => Value.int .i64 x))[j]? = some u → w.cell? ((⟨b, o, none⟩ : Addr).add j) = some u := by
      intro j u hu
      rw [List.getElem?_map] at hu
      have hj : j < ar.length := by
        rcases Nat.lt_or_ge j ar.length with h | h
        · exact h
        · rw [List.getElem?_eq_none h] at hu; simp at hu
      rw [List.getElem?_eq_getElem hj] at hu
      simp at hu
      subst hu
      have := hc j hj
      have e : ar.getD j 0 = ar[j] := by simp [List.getD, List.getElem?_eq_getElem hj]
      rw [e] at this
      unfold Addr.add
      split
      · rename_i h0; subst h0; simpa using this
      · exact this
    obtain ⟨v', w', hr, h2, h3, h4⟩ := run_append_own (P := Tryz.prog) w w.heap.size 57 ty 3 i (.int .i64 0) 1 8 Tryz.underlying57 hinf hz h1 h8 rfl (by decide) (.slice none 0 0) 0 [] (World.ownsRow_nil _ _ _ _) ⟨b, o, none⟩ ar.length d (ar.map (fun x => Value.int .i64 x)) (by simp) hcells
      (by intro u hu; simp only [List.mem_map] at hu; obtain ⟨x, _, rfl⟩ := hu; rfl) (by unfold maxLen; omega) (by omega) (Nat.le_refl _)
    have hbl : Below w.heap.size w w' := (Off.of_grown (T := []) h3 (by simp [Value.ownBlock])).below (Nat.le_refl _) (by simp)
    rw [Nat.zero_add] at h2
    rcases h2.2 with ⟨rfl, h0⟩ | ⟨g, cap, cur, rfl, hg, hcur, _, _, _, htk⟩
    · have : ar = [] := List.eq_nil_of_length_eq_zero h0
      subst this
      exact ⟨none, 0, w', hr, fun _ _ => .nil, hbl⟩
    · refine ⟨_, cap, w', hr, fun S hS => .inr ⟨g, 0, rfl, (Array.getElem?_eq_some_iff.1 hcur).1, fun hm => Nat.not_lt.2 hg (hS g hm), fun j hj => ?_⟩, hbl⟩
      rw [Nat.zero_add]
      have hBk : Bk g cur 3 w' := hcur
      refine hBk.cell ?_
      have e1 : cur.toList[j]? = (cur.toList.take (ar.length * 1))[j]? := by rw [List.getElem?_take]; simp [hj]
      rw [htk, List.nil_append, List.getElem?_map, List.getElem?_eq_getElem hj] at e1
      rw [← Array.getElem?_toList, e1]
      simp [List.getD, List.getElem?_eq_getElem hj]
theorem wpList_append_run {P : Program} (w : World) {ops : Array Oper} {rest : List Oper} {o : Oper} {a : Act} {Q : Exit → Act → World → Prop} (hg : o.guard = none) (s x : Operand) (t : TypeId)
    (ho : o.op = .call { callee := .builtin .append, args := #[s, x], argTypes := #[t, t] }) (u v r : Value) (w' : World) (hs : a.eval s = u) (hx : a.eval x = v)
    (hrun : ∀ ty, (Builtin.append_ #[t, t] ty #[u, v]).run P w = .ok r w') (hK : wpList P ops Q rest (a.put o.dst r) w') : wpList P ops Q (o :: rest) a w := by
  refine wpList_plain hg fun K' hK' => ?_
  unfold Oper.wp execOp
  simp only [ho, resolve, invoke, builtin, Sem.run_bind, Sem.run_pure, Result.andThen_ok, List.map_toArray, List.map_cons, List.map_nil, hs, hx, hrun]
  exact hK' _ _ hK
def fv (nm : ByteArray) (A : Option Addr) (n c : Nat) (rs : Int) : Value := .agg #[.string nm, .slice A n c, .int .i64 rs]
theorem own_any (nm : ByteArray) (B : Option Addr) (ar : List Int) (d : Nat) (rs : Int) (T : List Nat) (w : World) (hi : Ir T w B ar) (hl : ar.length ≤ 1000000) :
    Calls Tryz.prog 48 #[.agg #[.string nm, .slice B ar.length d, .int .i64 rs]] w fun e w' => ∃ A c, e = .returned (.agg #[.string nm, .slice A ar.length c, .int .i64 rs]) ∧ (∀ S : List Nat, (∀ b ∈ S, b < w.heap.size) → Ir S w' A ar) ∧ Below w.heap.size w w' := by
  obtain ⟨W, hW⟩ : ∃ W, W = (w.alloc (.cells #[.string nm, .slice B ar.length d, .int .i64 rs] 59)).alloc (.cells #[.string ⟨#[]⟩, .slice none 0 0, .int .i64 0] 59) := ⟨_, rfl⟩
  have hiW : Ir [] W B ar := by rw [hW]; exact (hi.al _).al _
  have hsz : W.heap.size = w.heap.size + 1 + 1 := by rw [hW]; simp
  have X1 : Bk w.heap.size #[.string nm, .slice B ar.length d, .int .i64 rs] 59 W := by rw [hW]; exact (Bk.new _ _ w).al _
  have X2 : Bk (w.heap.size + 1) #[.string ⟨#[]⟩, .slice none 0 0, .int .i64 0] 59 W := by rw [hW]; exact Bk.new1 _ _ w _
  have hbW : Below w.heap.size w W := by rw [hW]; exact ((Below.refl _ _).alloc (Nat.le_refl _) _).alloc (by simp) _
  obtain ⟨A, c, w1, hrun, hI, hb⟩ : ∃ A c w1, (∀ ty, (Builtin.append_ #[57, 57] ty #[.slice none 0 0, .slice B ar.length d]).run Tryz.prog W = .ok (.slice A ar.length c) w1) ∧ (∀ S : List Nat, (∀ b ∈ S, b < W.heap.size) → Ir S w1 A ar) ∧ Below W.heap.size W w1 := by
    obtain ⟨A, c, w1, h1, h2, h3⟩ := app_ints W 57 B d ar [] hiW hl
    exact ⟨A, c, w1, fun ty => h1, h2, h3⟩
  have Y1 := X1.next hb
  have Y2 := X2.next hb
  have a0 : w1.cell? ⟨w.heap.size, 0, none⟩ = some (.string nm) := Y1.cell rfl
  have a1 : w1.cell? ⟨w.heap.size, 1, none⟩ = some (.slice B ar.length d) := Y1.cell rfl
  have a2 : w1.cell? ⟨w.heap.size, 2, none⟩ = some (.int .i64 rs) := Y1.cell rfl
  have f1 := Y1.free 1
  have b0 : w1.cell? ⟨w.heap.size + 1, 0, none⟩ = some (.string ⟨#[]⟩) := Y2.cell rfl
  have b1 : w1.cell? ⟨w.heap.size + 1, 1, none⟩ = some (.slice none 0 0) := Y2.cell rfl
  have b2 : w1.cell? ⟨w.heap.size + 1, 2, none⟩ = some (.int .i64 0) := Y2.cell rfl
  have g0 := Y2.free 0
  have g1 := Y2.free 1
  have g2 := Y2.free 2
  rw [hW] at hrun
  have hI := hide hI
  have hb1 := hide (hbW.trans (hb.mono (by omega)))
  have hsz1 : w.heap.size + 1 + 1 ≤ w1.heap.size := by rw [← hsz]; exact hb.size
  have hsz1 := hide hsz1
  have hI2 : ∀ S : List Nat, (∀ b ∈ S, b < w.heap.size) → Ir ([w.heap.size, w.heap.size + 1] ++ S) w1 A ar := by
    intro S hS
    refine hI.out _ fun b hb => ?_
    rcases List.mem_append.1 hb with h | h
    · simp at h; omega
    · have := hS b h; omega
  have hI2 := hide hI2
  have Y2 := hide Y2
  clear X1 X2 Y1 hi hiW hb hbW hsz hW hI
  generalize ar.length = n at *
  go_enter Tryz.func48, Tryz.ntmps48
  go_wp2_with (at_builtin; refine wpList_append_run _ rfl _ _ _ rfl _ _ _ _ rfl rfl hrun ?_)
  obtain ⟨F, hF⟩ : ∃ F, F = ((((w1.setCell ⟨w.heap.size, 1, none⟩ (.slice A n c)).setCell ⟨w.heap.size + 1, 0, none⟩ (.string nm)).setCell ⟨w.heap.size + 1, 1, none⟩ (.slice A n c)).setCell ⟨w.heap.size + 1, 2, none⟩ (.int .i64 rs)) := ⟨_, rfl⟩
  rw [← hF]
  have hY : Bk (w.heap.size + 1) #[.string nm, .slice A n c, .int .i64 rs] 59 F := by
    rw [hF]
    exact (((Y2.out.set_far _ _ (by simp)).set _ rfl).set _ rfl).set _ rfl
  have hO : Off [w.heap.size, w.heap.size + 1] w1 F := by
    rw [hF]
    exact ((((Off.refl _ _).setCell _ _ (.inl (by simp))).setCell _ _ (.inl (by simp))).setCell _ _ (.inl (by simp))).setCell _ _ (.inl (by simp))
  have c0 : F.cell? ⟨w.heap.size + 1, 0, none⟩ = some (.string nm) := hY.cell rfl
  have c1 : F.cell? ⟨w.heap.size + 1, 1, none⟩ = some (.slice A n c) := hY.cell rfl
  have c2 : F.cell? ⟨w.heap.size + 1, 2, none⟩ = some (.int .i64 rs) := hY.cell rfl
  refine bodyPost_ret (v := .agg #[.string nm, .slice A n c, .int .i64 rs]) (by simp [results, Tryz.results48, go_sem, c0, c1, c2]) rfl ⟨A, c, rfl, fun S hS => ?_, ?_⟩
  · exact (hI2.out S hS).off hO (fun b hb => .inl (List.mem_append_left _ hb)) (fun b hb => .inl (List.mem_append_right _ hb))
  · exact hb1.out.trans (hO.below (by have := hsz1.out; omega) (by intro b hb; simp at hb; omega))
theorem str_clone (s : ByteArray) (w : World) (hs : s.size ≤ 200) : Calls Tryz.prog 69 #[.string s] w fun e w' => e = .returned (.string s) ∧ Below w.heap.size w w' := by
  have h := Tryz.stringslite_Clone s w (by omega)
  clear hs
  go_enter Tryz.func69, Tryz.ntmps69
  go_wp2_with (go_at_call 92; refine h.mono ?_; rintro e w' ⟨rfl, hb⟩)
  go_ret
  exact ⟨rfl, by assumption⟩
theorem ecs_snoc (es : List (ByteArray × Nat)) (s : ByteArray) (l : Nat) : ecs (es ++ [(s, l)]) = ecs es ++ [.string s, .int .i64 (l : Int)] := by
  unfold ecs; simp
theorem app_entry (w : World) (v : Value) (es : List (ByteArray × Nat)) (hrow : w.ownsRow 0 133 2 v es.length (ecs es)) (s : ByteArray) (l : Nat) (hl : es.length ≤ 1000000) :
    ∃ v' w', (∀ ty, (Builtin.append_ #[87, 87] ty #[v, .slice (some ⟨w.heap.size, 0, none⟩) 1 1]).run Tryz.prog (w.alloc (.cells #[.string s, .int .i64 (l : Int)] 133)) = .ok v' w') ∧
      w'.ownsRow 0 133 2 v' (es.length + 1) (ecs (es ++ [(s, l)])) ∧ Off v.ownBlock.toList w w' ∧ (∀ b, v'.ownBlock = some b → v.ownBlock = some b ∨ w.heap.size ≤ b) := by
  obtain ⟨i, hinf, hz, h1, h8⟩ := info_parts (P := Tryz.prog) (e := 133) (z := .agg #[.string ⟨#[]⟩, .int .i64 0]) (size := 2) (bytes := 24) (by kernel_rfl)
  have hB : Bk w.heap.size #[.string s, .int .i64 (l : Int)] 133 (w.alloc (.cells #[.string s, .int .i64 (l : Int)] 133)) := Bk.new _ _ _
  have hcells : ∀ j u, ([.string s, .int .i64 (l : Int)] : List Value)[j]? = some u → (w.alloc (.cells #[.string s, .int .i64 (l : Int)] 133)).cell? ((⟨w.heap.size, 0, none⟩ : Addr).add j) = some u := by
    intro j u hu
    rw [Addr.add_lit, Nat.zero_add]
    refine hB.cell ?_
    rw [← Array.getElem?_toList]
    exact hu
  obtain ⟨v', w', hr, h2, h3, h4, h5⟩ := run_append_own_at (P := Tryz.prog) (w.alloc (.cells #[.string s, .int .i64 (l : Int)] 133)) 0 87 0 133 i (.agg #[.string ⟨#[]⟩, .int .i64 0]) 2 24 Tryz.underlying87 hinf hz h1 h8 rfl (by decide) v es.length (ecs es) (hrow.alloc _) ⟨w.heap.size, 0, none⟩ 1 1 [.string s, .int .i64 (l : Int)] rfl hcells
    (by intro u hu; simp at hu; rcases hu with rfl | rfl <;> rfl) (by unfold maxLen; omega) (by omega) (Nat.zero_le _)
  refine ⟨v', w', fun ty => hr, by rw [ecs_snoc]; exact h2, ?_, ?_⟩
  · exact ((Off.refl _ _).alloc _).trans (Off.of_grown (T := v.ownBlock.toList) h3 (fun k hk => .inl (by simp [hk]))) (fun b hb => .inl hb)
  · intro b hb
    rcases h5 with h5 | h5
    · exact .inl (h5 ▸ hb)
    · rw [h5] at hb
      have : (w.alloc (.cells #[.string s, .int .i64 (l : Int)] 133)).heap.size = w.heap.size + 1 := by simp
      injection hb with hb
      exact .inr (by omega)
def Pushed (p o : Nat) (t : TypeId) (cur : Array Value) (v : Value) (m : Option Nat) (N : Nat) (es : List (ByteArray × Nat)) (w w' : World) : Prop :=
  ∃ v' m', Stk w' v' m' N es ∧ Bk p ((cur.setIfInBounds o v').setIfInBounds (o + 1) (.map m')) t w' ∧ Off (p :: bks v m) w w' ∧ (∀ b ∈ bks v' m', b ∈ bks v m ∨ w.heap.size ≤ b)
theorem Mp.upd {w : World} {b N : Nat} {es : List (ByteArray × Nat)} {D : DataW Unit} (hown : w.ownsMap Tryz.prog 9 (plainElem (H := Unit) Tryz.prog 3) b N D) (hn : Nm D es) (s : ByteArray) (hs : s.size ≤ maxLen) (hN : N ≤ 1000000) (hl : es.length ≤ N) (l : Nat) (hno : hasB es s = false) :
    ∃ w', (Instr.mapUpdate 88 (.map (some b)) (.string s) (.int .i64 (es.length : Int))).run Tryz.prog w = .ok () w' ∧ Mp w' (some b) (N + 1) (es ++ [(s, l)]) ∧ w.grownBy w' (some b) := by
  have hkey : keyOf Tryz.prog 9 (.string s) = some (kl s) := keyOf_string_mk Tryz.underlying9 hs
  have hwf : (Lit.int .i64 (es.length : Int)).wf = true := WalkArith.wf_i64 (by omega)
  obtain ⟨w', h1, h2, h3⟩ := hown.update lawS Tryz.underlying88 (by unfold maxLen; omega) hkey (plainElem_int Tryz.underlying3 hwf)
  exact ⟨w', h1, .inr ⟨b, _, rfl, h2, hn.push hown.isMap s l hno hs⟩, h3⟩
theorem Off.row {T : List Nat} {w w' : World} {base : Nat} {e : TypeId} {size : Nat} {v : Value} {n : Nat} {xs : List Value} (h : w.ownsRow base e size v n xs) (hf : Off T w w') (hn : ∀ k, v.ownBlock = some k → k ∉ T) : w'.ownsRow base e size v n xs := by
  refine ⟨h.1, ?_⟩
  rcases h.2 with h2 | ⟨g, cap, cur, rfl, h3, h4, h5⟩
  · exact .inl h2
  · exact .inr ⟨g, cap, cur, rfl, h3, (hf.block g (Array.getElem?_eq_some_iff.1 h4).1 (hn g rfl)).trans h4, h5⟩
theorem Off.map {T : List Nat} {w w' : World} {m : Option Nat} {N : Nat} {es : List (ByteArray × Nat)} (h : Mp w m N es) (hf : Off T w w') (hn : ∀ k, m = some k → k ∉ T) : Mp w' m N es := by
  rcases h with h | ⟨b, D, rfl, hown, hD⟩
  · exact .inl h
  · obtain ⟨en, cl, hb, hF⟩ := hown
    exact .inr ⟨b, D, rfl, ⟨en, cl, (hf.block b (Array.getElem?_eq_some_iff.1 hb).1 (hn b rfl)).trans hb, hF⟩, hD⟩
theorem row_lt {w : World} {base : Nat} {e : TypeId} {size : Nat} {v : Value} {n : Nat} {xs : List Value} (h : w.ownsRow base e size v n xs) {k : Nat} (hk : v.ownBlock = some k) : k < w.heap.size := (h.lt k hk).2
theorem map_lt {w : World} {m : Option Nat} {N : Nat} {es : List (ByteArray × Nat)} (h : Mp w m N es) {k : Nat} (hk : m = some k) : k < w.heap.size := by
  rcases h with ⟨rfl, _⟩ | ⟨b, D, rfl, hown, _⟩
  · cases hk
  · cases hk; exact hown.lt
theorem Mp.mono {w : World} {m : Option Nat} {N N' : Nat} {es : List (ByteArray × Nat)} (h : Mp w m N es) (hN : N ≤ N') : Mp w m N' es := by
  rcases h with h | ⟨b, D, rfl, hown, hD⟩
  · exact .inl h
  · exact .inr ⟨b, D, rfl, hown.mono hN, hD⟩
theorem set_same {cur : Array Value} {j : Nat} {v : Value} (h : cur[j]? = some v) : cur.setIfInBounds j v = cur := by
  apply Array.ext_getElem?
  intro k
  by_cases hk : j = k
  · subst hk
    have := (Array.getElem?_eq_some_iff.1 h).1
    rw [Array.getElem?_setIfInBounds_self_of_lt this, h]
  · rw [Array.getElem?_setIfInBounds_ne hk]
def PF (p o : Nat) (t : TypeId) (cur : Array Value) (A : Option Addr) (n c b N : Nat) (es : List (ByteArray × Nat)) (s : ByteArray) (l : Nat) (w w1 : World) : Prop :=
  ∃ w2 A' c' w3, (Instr.mapUpdate 88 (.map (some b)) (.string s) (.int .i64 (n : Int))).run Tryz.prog w1.drew = .ok () w2 ∧ w2.cell? ⟨p, o, none⟩ = some (.slice A n c) ∧ w2.cell? ⟨p, o + 1, none⟩ = some (.map (some b)) ∧
      (∀ ty, (Builtin.append_ #[87, 87] ty #[.slice A n c, .slice (some ⟨w2.heap.size, 0, none⟩) 1 1]).run Tryz.prog (w2.alloc (.cells #[.string s, .int .i64 (l : Int)] 133)) = .ok (.slice A' (n + 1) c') w3) ∧
      w3.cell? ⟨p, o, none⟩ = some (.slice A n c) ∧ w3.frozen? ⟨p, o, none⟩ = false ∧ Pushed p o t cur (.slice A n c) (some b) (N + 1) (es ++ [(s, l)]) w (w3.setCell ⟨p, o, none⟩ (.slice A' (n + 1) c'))
theorem push_facts (p o : Nat) (t : TypeId) (cur : Array Value) (A : Option Addr) (c b N : Nat) (es : List (ByteArray × Nat)) (s : ByteArray) (l : Nat) (w w1 : World)
    (hB : Bk p cur t w1) (h1 : cur[o + 1]? = some (.map (some b))) (h0 : cur[o]? = some (.slice A es.length c)) (hrow : w1.ownsRow 0 133 2 (.slice A es.length c) es.length (ecs es)) (hM : Mp w1 (some b) N es) (hle : es.length ≤ N)
    (hp : p ∉ bks (.slice A es.length c) (some b)) (hAb : ∀ k, (Value.slice A es.length c).ownBlock = some k → k ≠ b) (hno : hasB es s = false) (hs : s.size ≤ 200) (hN : N ≤ 1000000) (hO : Off (p :: bks (.slice A es.length c) (some b)) w w1) (hbw : ∀ k ∈ p :: bks (.slice A es.length c) (some b), k < w1.heap.size) :
    PF p o t cur A es.length c b N es s l w w1 := by
  have hpb : p ≠ b := fun e => hp (by simp [bks, e])
  have hpA : ∀ k, (Value.slice A es.length c).ownBlock = some k → p ≠ k := fun k hk e => hp (by simp [bks, hk, e])
  rcases hM with ⟨h, _⟩ | ⟨b', D, hb', hown, hD⟩
  · cases h
  cases hb'
  obtain ⟨w2, hup, hM2, hg2⟩ := Mp.upd hown.drew hD s (by unfold maxLen; omega) hN hle l hno
  have hO2 : Off [b] w1 w2 := ((Off.refl [b] w1).drew).trans (T' := [b]) (Off.of_grown hg2 (fun k hk => by injection hk with hk; simp [hk])) (fun x hx => .inl hx)
  have hB2 : Bk p cur t w2 := hB.off hO2 (by simpa using hpb)
  have hrow2 := Off.row hrow hO2 (fun k hk => by simpa using hAb k hk)
  obtain ⟨v', w3, happ, hrow3, hO3, hloc⟩ := app_entry w2 _ es hrow2 s l (Nat.le_trans hle hN)
  have hB3 : Bk p cur t w3 := hB2.off hO3 (fun hm => by rw [Option.mem_toList] at hm; exact hpA p hm rfl)
  have hform : ∃ A' c', v' = .slice A' (es.length + 1) c' := by
    rcases hrow3.2 with ⟨_, h⟩ | ⟨g, cap, cu, e, _⟩
    · omega
    · exact ⟨_, _, e⟩
  obtain ⟨A', c', rfl⟩ := hform
  refine ⟨w2, A', c', w3, hup, hB2.cell h0, hB2.cell h1, happ, hB3.cell h0, hB3.free o, .slice A' (es.length + 1) c', some b, ?_, ?_, ?_, ?_⟩
  · have hO4 : Off [p] w3 (w3.setCell ⟨p, o, none⟩ (.slice A' (es.length + 1) c')) := (Off.refl _ _).setCell _ _ (.inl (by simp))
    have hn : ∀ k, (Value.slice A' (es.length + 1) c').ownBlock = some k → k ∉ [p] := by
      intro k hk hm
      simp at hm
      subst hm
      rcases hloc _ hk with h | h
      · exact hpA _ h rfl
      · exact Nat.not_lt.2 h hB2.lt
    refine ⟨?_, ?_, by simp; omega⟩
    · have : (es ++ [(s, l)]).length = es.length + 1 := by simp
      rw [this]
      exact Off.row hrow3 hO4 hn
    · refine Off.map (Off.map hM2 hO3 ?_) hO4 ?_
      · intro k hk
        cases hk
        intro hm
        rw [Option.mem_toList] at hm
        exact hAb _ hm rfl
      · intro k hk hm
        cases hk
        simp at hm
        exact hpb hm.symm
  · rw [set_same (by rw [Array.getElem?_setIfInBounds_ne (by omega)]; exact h1)]
    exact hB3.set _ rfl
  · refine ((hO.trans (T' := [b]) hO2 ?_).trans hO3 ?_).setCell _ _ (.inl (by simp))
    · intro x hx
      simp at hx
      exact .inl (by simp [bks, hx])
    · intro x hx
      exact .inl (by simp only [bks]; exact List.mem_cons_of_mem _ (List.mem_append_left _ hx))
  · intro k hk
    rcases List.mem_append.1 hk with hk | hk
    · rw [Option.mem_toList] at hk
      rcases hloc k hk with h | h
      · exact .inl (List.mem_append_left _ (by rw [Option.mem_toList]; exact h))
      · exact .inr (Nat.le_trans (hO.trans (T' := [b]) hO2 (by intro x hx; simp at hx; exact .inl (by simp [bks, hx]))).size h)
    · exact .inl (List.mem_append_right _ hk)
theorem push_some (p o : Nat) (t : TypeId) (cur : Array Value) (A : Option Addr) (c b N : Nat) (es : List (ByteArray × Nat)) (s : ByteArray) (l : Nat) (w : World)
    (hB : Bk p cur t w) (h0 : cur[o]? = some (.slice A es.length c)) (h1 : cur[o + 1]? = some (.map (some b))) (hS : Stk w (.slice A es.length c) (some b) N es) (hp : p ∉ bks (.slice A es.length c) (some b)) (hAb : ∀ k, (Value.slice A es.length c).ownBlock = some k → k ≠ b) (hno : hasB es s = false) (hs : s.size ≤ 200) (hN : N ≤ 1000000) :
    Calls Tryz.prog 44 #[.pointer (some ⟨p, o, none⟩), .string s, .int .i64 (l : Int)] w fun e w' => e = .returned (.string s) ∧ Pushed p o t cur (.slice A es.length c) (some b) (N + 1) (es ++ [(s, l)]) w w' := by
  have hcl := str_clone s w hs
  have hmq : ∀ W, (binOp .eql 88 (.map (some b)) (.map none)).run Tryz.prog W = .ok (.bool false) W := fun _ => by kernel_rfl
  have hbw : ∀ k ∈ p :: bks (.slice A es.length c) (some b), k < w.heap.size := by
    intro k hk
    rcases List.mem_cons.1 hk with rfl | hk
    · exact hB.lt
    · rcases List.mem_append.1 hk with hk | hk
      · rw [Option.mem_toList] at hk; exact row_lt hS.row hk
      · rw [Option.mem_toList] at hk; exact map_lt hS.map hk
  have hfacts : ∀ w1, Below w.heap.size w w1 → w1.cell? ⟨p, o, none⟩ = some (.slice A es.length c) ∧ w1.cell? ⟨p, o + 1, none⟩ = some (.map (some b)) ∧ PF p o t cur A es.length c b N es s l w w1 := fun w1 hb =>
    ⟨(hB.next hb).cell h0, (hB.next hb).cell h1, push_facts p o t cur A c b N es s l w w1 (hB.next hb) h1 h0 (Off.row hS.row (.of_below hb []) (by simp)) (Off.map hS.map (.of_below hb []) (by simp)) hS.le hp hAb hno hs hN (.of_below hb _) (fun k hk => Nat.lt_of_lt_of_le (hbw k hk) hb.size)⟩
  have hfacts := hide hfacts
  clear h0 h1 hp hAb hbw hB hS
  go_enter Tryz.func44, Tryz.ntmps44
  go_wp2_with (go_at_call 69; (with_reducible refine hcl.mono ?_); rintro e w1 ⟨rfl, hb⟩; obtain ⟨a0, a1, w2, A', c', w3, hup, b0, b1, happ, d0, d1, hfin⟩ := hfacts.out _ hb)
  refine wp_region_held_drew (S := (fun W => W.cell? ⟨p, o, none⟩ = some (.slice A es.length c) ∧ W.cell? ⟨p, o + 1, none⟩ = some (.map (some b)))) (by kernel_rfl) ?_ (fun hHeld => ?_)
  · (try dsimp only)
    exact ⟨by assumption, by assumption⟩
  refine wpAnyH_take (i := 0) (v := ?vvx0) (by (simp only [List.getElem?_toArray, List.getElem?_cons_zero, List.getElem?_cons_succ]) <;> rfl) (by kernel_rfl) (by kernel_rfl) (by kernel_rfl) ?hqx0 (Or.inl ⟨by rfl, ?hyx0⟩) (by assumption) ?_
  case hqx0 => exact fun _ _ _ h => h
  case hyx0 => ((intro w hSw; (try dsimp only at hSw); go_simp) <;> (with_reducible rfl))
  (try simp only [Act.put, List.setIfInBounds_toArray, List.set_cons_zero, List.set_cons_succ])
  refine wpAnyH_take (i := 1) (v := ?vvx1) (by (simp only [List.getElem?_toArray, List.getElem?_cons_zero, List.getElem?_cons_succ]) <;> rfl) (by kernel_rfl) (by kernel_rfl) (by kernel_rfl) ?hqx1 (Or.inl ⟨by rfl, ?hyx1⟩) (by assumption) ?_
  case hqx1 => exact fun _ _ _ h => h
  case hyx1 => ((intro w hSw; (try dsimp only at hSw); go_simp) <;> (with_reducible rfl))
  (try simp only [Act.put, List.setIfInBounds_toArray, List.set_cons_zero, List.set_cons_succ])
  refine wpAnyH_take (i := 2) (v := ?vvx2) (by (simp only [List.getElem?_toArray, List.getElem?_cons_zero, List.getElem?_cons_succ]) <;> rfl) (by kernel_rfl) (by kernel_rfl) (by kernel_rfl) ?hqx2 (Or.inl ⟨by rfl, ?hyx2⟩) (by assumption) ?_
  case hqx2 => exact fun _ _ _ h => h
  case hyx2 => ((intro w hSw; (try dsimp only at hSw); go_simp) <;> (with_reducible rfl))
  (try simp only [Act.put, List.setIfInBounds_toArray, List.set_cons_zero, List.set_cons_succ])
  refine wpAnyH_take (i := 3) (v := ?vvx3) (by (simp only [List.getElem?_toArray, List.getElem?_cons_zero, List.getElem?_cons_succ]) <;> rfl) (by kernel_rfl) (by kernel_rfl) (by kernel_rfl) ?hqx3 (Or.inl ⟨by rfl, ?hyx3⟩) (by assumption) ?_
  case hqx3 => exact fun _ _ _ h => h
  case hyx3 => ((intro w hSw; (try dsimp only at hSw); go_simp) <;> (with_reducible rfl))
  (try simp only [Act.put, List.setIfInBounds_toArray, List.set_cons_zero, List.set_cons_succ])
  refine wpAnyH_take (i := 4) (v := ?vvx4) (by (simp only [List.getElem?_toArray, List.getElem?_cons_zero, List.getElem?_cons_succ]) <;> rfl) (by kernel_rfl) (by kernel_rfl) (by kernel_rfl) ?hqx4 (Or.inl ⟨by rfl, ?hyx4⟩) (by assumption) ?_
  case hqx4 => exact fun _ _ _ h => h
  case hyx4 => ((intro w hSw; (try dsimp only at hSw); go_simp) <;> (with_reducible rfl))
  (try simp only [Act.put, List.setIfInBounds_toArray, List.set_cons_zero, List.set_cons_succ])
  refine wpAnyH_take (i := 5) (v := ?vvx5) (by (simp only [List.getElem?_toArray, List.getElem?_cons_zero, List.getElem?_cons_succ]) <;> rfl) (by kernel_rfl) (by kernel_rfl) (by kernel_rfl) ?hqx5 (Or.inl ⟨by rfl, ?hyx5⟩) (by assumption) ?_
  case hqx5 => exact fun _ _ _ h => h
  case hyx5 => ((intro w hSw; (try dsimp only at hSw); go_simp) <;> (with_reducible rfl))
  (try simp only [Act.put, List.setIfInBounds_toArray, List.set_cons_zero, List.set_cons_succ])
  refine wpAnyH_take (i := 6) (v := ?vvx6) (by (simp only [List.getElem?_toArray, List.getElem?_cons_zero, List.getElem?_cons_succ]) <;> rfl) (by kernel_rfl) (by kernel_rfl) (by kernel_rfl) ?hqx6 (Or.inl ⟨by rfl, ?hyx6⟩) (by assumption) ?_
  case hqx6 => exact fun _ _ _ h => h
  case hyx6 => ((intro w hSw; (try dsimp only at hSw); go_simp) <;> (with_reducible rfl))
  (try simp only [Act.put, List.setIfInBounds_toArray, List.set_cons_zero, List.set_cons_succ])
  refine wpAnyH_take (i := 7) (v := ?vvx7) (by (simp only [List.getElem?_toArray, List.getElem?_cons_zero, List.getElem?_cons_succ]) <;> rfl) (by kernel_rfl) (by kernel_rfl) (by kernel_rfl) ?hqx7 (Or.inl ⟨by rfl, ?hyx7⟩) (by assumption) ?_
  case hqx7 => exact fun _ _ _ h => h
  case hyx7 => ((intro w hSw; (try dsimp only at hSw); go_simp) <;> (with_reducible rfl))
  (try simp only [Act.put, List.setIfInBounds_toArray, List.set_cons_zero, List.set_cons_succ])
  refine wpAnyH_take (i := 8) (v := ?vvx8) (by (simp only [List.getElem?_toArray, List.getElem?_cons_zero, List.getElem?_cons_succ]) <;> rfl) (by kernel_rfl) (by kernel_rfl) (by kernel_rfl) ?hqx8 (Or.inl ⟨by rfl, ?hyx8⟩) (by assumption) ?_
  case hqx8 => exact fun _ _ _ h => h
  case hyx8 => ((intro w hSw; (try dsimp only at hSw); go_simp) <;> (with_reducible rfl))
  (try simp only [Act.put, List.setIfInBounds_toArray, List.set_cons_zero, List.set_cons_succ])
  refine wpAnyH_take (i := 9) (v := ?vvx9) (by (simp only [List.getElem?_toArray, List.getElem?_cons_zero, List.getElem?_cons_succ]) <;> rfl) (by kernel_rfl) (by kernel_rfl) (by kernel_rfl) ?hqx9 (Or.inl ⟨by rfl, ?hyx9⟩) (by assumption) ?_
  case hqx9 => exact fun _ _ _ h => h
  case hyx9 => ((intro w hSw; (try dsimp only at hSw); go_simp) <;> (with_reducible rfl))
  (try simp only [Act.put, List.setIfInBounds_toArray, List.set_cons_zero, List.set_cons_succ])
  refine wpAnyH_ready (rs := [10]) (by kernel_rfl) (by simp) ?_
  refine AllReadyH.cons (by (simp only [List.getElem?_toArray, List.getElem?_cons_zero, List.getElem?_cons_succ]) <;> rfl) (fun K hK => ?_) AllReadyH.nil
  go_simp
  refine hK.out _ _ ?_ (fun hHeld => ?_)
  · (try dsimp only)
    exact ⟨by assumption, by assumption⟩
  clear hK K
  (try simp only [Act.put, List.setIfInBounds_toArray, List.set_cons_zero, List.set_cons_succ])
  refine wpAnyH_done (by kernel_rfl) ?_ _
  clear hHeld
  go_wp2_with (at_builtin; refine wpList_append_run _ rfl _ _ _ rfl _ _ _ _ rfl rfl happ ?_)
  go_ret
  exact ⟨rfl, hfin⟩
theorem Off.less {T S : List Nat} {w w' : World} (h : Off S w w') (hS : ∀ b ∈ S, b ∈ T ∨ w.heap.size ≤ b) : Off T w w' :=
  (Off.refl T w).trans h hS
theorem Pushed.made {p o : Nat} {t : TypeId} {cur : Array Value} {v : Value} {b N : Nat} {es : List (ByteArray × Nat)} {w w' : World} {x : Value} (h : Pushed p o t (cur.setIfInBounds (o + 1) x) v (some b) N es w w') (hb : w.heap.size ≤ b) (ho : o < cur.size) : Pushed p o t cur v none N es w w' := by
  obtain ⟨v', m', h1, h2, h3, h4⟩ := h
  refine ⟨v', m', h1, ?_, h3.less ?_, ?_⟩
  · have e : ((cur.setIfInBounds (o + 1) x).setIfInBounds o v').setIfInBounds (o + 1) (.map m') = (cur.setIfInBounds o v').setIfInBounds (o + 1) (.map m') := by
      apply Array.ext_getElem?
      intro k
      simp only [Array.getElem?_setIfInBounds, Array.size_setIfInBounds]
      by_cases h1 : o + 1 = k
      · simp [h1]
      · simp [h1]
    rw [e] at h2
    exact h2
  · intro k hk
    rcases List.mem_cons.1 hk with rfl | hk
    · exact .inl (by simp)
    · rcases List.mem_append.1 hk with hk | hk
      · exact .inl (by simp only [bks]; exact List.mem_cons_of_mem _ (List.mem_append_left _ hk))
      · simp at hk
        exact .inr (by omega)
  · intro k hk
    rcases h4 k hk with hk | hk
    · rcases List.mem_append.1 hk with hk | hk
      · exact .inl (by simp only [bks]; exact List.mem_append_left _ hk)
      · simp at hk
        exact .inr (by omega)
    · exact .inr hk
theorem push_none (p o : Nat) (t : TypeId) (cur : Array Value) (A : Option Addr) (c N : Nat) (s : ByteArray) (l : Nat) (w : World)
    (hB : Bk p cur t w) (h0 : cur[o]? = some (.slice A 0 c)) (h1 : cur[o + 1]? = some (.map none)) (hS : Stk w (.slice A 0 c) none N []) (hp : p ∉ bks (.slice A 0 c) none) (hs : s.size ≤ 200) (hN : N ≤ 1000000) :
    Calls Tryz.prog 44 #[.pointer (some ⟨p, o, none⟩), .string s, .int .i64 (l : Int)] w fun e w' => e = .returned (.string s) ∧ Pushed p o t cur (.slice A 0 c) none (N + 1) [(s, l)] w w' := by
  have hcl := str_clone s w hs
  have hmm := @run_makeMap Tryz.prog
  have hmq : ∀ W, (binOp .eql 88 (.map none) (.map none)).run Tryz.prog W = .ok (.bool true) W := fun _ => by kernel_rfl
  have hfacts : ∀ w1, Below w.heap.size w w1 → w1.cell? ⟨p, o + 1, none⟩ = some (.map none) ∧ w1.frozen? ⟨p, o + 1, none⟩ = false ∧ p < w1.heap.size ∧ ∃ W1 b, W1 = (w1.setCell ⟨p, o + 1, none⟩ (.map (some w1.heap.size))).alloc (.map #[] 0) ∧ b = w1.heap.size ∧ w.heap.size ≤ b ∧ W1.cell? ⟨p, o, none⟩ = some (.slice A 0 c) ∧ W1.cell? ⟨p, o + 1, none⟩ = some (.map (some b)) ∧ PF p o t (cur.setIfInBounds (o + 1) (.map (some w1.heap.size))) A 0 c b N [] s l w W1 := fun w1 hb => by
    have hB1 := hB.next hb
    have hB2 : Bk p (cur.setIfInBounds (o + 1) (.map (some w1.heap.size))) t ((w1.setCell ⟨p, o + 1, none⟩ (.map (some w1.heap.size))).alloc (.map #[] 0)) := (hB1.set _ rfl).al _
    have hlt : o + 1 < cur.size := (Array.getElem?_eq_some_iff.1 h1).1
    have e0 : (cur.setIfInBounds (o + 1) (.map (some w1.heap.size)))[o]? = some (.slice A 0 c) := by rw [Array.getElem?_setIfInBounds_ne (by omega)]; exact h0
    have e1 : (cur.setIfInBounds (o + 1) (.map (some w1.heap.size)))[o + 1]? = some (.map (some w1.heap.size)) := Array.getElem?_setIfInBounds_self_of_lt hlt
    have hO1 : Off [p] w ((w1.setCell ⟨p, o + 1, none⟩ (.map (some w1.heap.size))).alloc (.map #[] 0)) := ((Off.of_below hb [p]).setCell _ _ (.inl (by simp))).alloc _
    have hn : ∀ k, (Value.slice A 0 c).ownBlock = some k → k ∉ [p] := by
      intro k hk hm
      simp at hm
      subst hm
      exact hp (by simp [bks, hk])
    have hown : ((w1.setCell ⟨p, o + 1, none⟩ (.map (some w1.heap.size))).alloc (.map #[] 0)).ownsMap Tryz.prog 9 (plainElem (H := Unit) Tryz.prog 3) w1.heap.size 0 (.map []) :=
      by
        have := World.ownsMap_made (H := Unit) (w1.setCell ⟨p, o + 1, none⟩ (.map (some w1.heap.size))) Tryz.prog 9 (plainElem (H := Unit) Tryz.prog 3)
        rwa [setCell_size] at this
    exact ⟨hB1.cell h1, hB1.free _, hB1.lt, _, _, rfl, rfl, hb.size, hB2.cell e0, hB2.cell e1, push_facts p o t _ A c w1.heap.size N [] s l w _ hB2 e1 e0 (Off.row hS.row hO1 hn) ((show Mp _ (some w1.heap.size) 0 [] from .inr ⟨_, _, rfl, hown, .nil⟩).mono (Nat.zero_le _)) (Nat.zero_le _)
      (by
        intro hm
        rcases List.mem_append.1 hm with hm | hm
        · exact hp (by simp only [bks]; exact List.mem_append_left _ hm)
        · simp at hm; have := hB1.lt; omega)
      (by
        intro k hk e
        have h1 := row_lt hS.row hk
        have h2 := hb.size
        omega)
      rfl hs hN (hO1.more (by intro x hx; simp at hx; simp [hx]))
      (by
        intro k hk
        have hsz : w1.heap.size + 1 = ((w1.setCell ⟨p, o + 1, none⟩ (.map (some w1.heap.size))).alloc (.map #[] 0)).heap.size := by simp [setCell_size]
        rw [← hsz]
        rcases List.mem_cons.1 hk with rfl | hk
        · have := hB1.lt; omega
        · rcases List.mem_append.1 hk with hk | hk
          · rw [Option.mem_toList] at hk
            have := row_lt hS.row hk
            have := hb.size
            omega
          · simp at hk; omega)⟩
  have hfacts := hide hfacts
  have hfin : ∀ (b : Nat) (x : Value) (w' : World), Pushed p o t (cur.setIfInBounds (o + 1) x) (.slice A 0 c) (some b) (N + 1) [(s, l)] w w' → w.heap.size ≤ b → Pushed p o t cur (.slice A 0 c) none (N + 1) [(s, l)] w w' := fun _ _ _ h hb => h.made hb (Array.getElem?_eq_some_iff.1 h0).1
  have hfin := hide hfin
  clear h0 h1 hp hB hS
  go_enter Tryz.func44, Tryz.ntmps44
  go_wp2_with (go_at_call 69; (with_reducible refine hcl.mono ?_); rintro e w1 ⟨rfl, hb⟩; obtain ⟨z0, z1, z2, W1, b, hW1, hb1, hbw, a0, a1, w2, A', c', w3, hup, b0, b1, happ, d0, d1, hpu⟩ := hfacts.out _ hb)
  rw [← hW1, ← hb1]
  have hup : (Instr.mapUpdate 88 (.map (some b)) (.string s) (.int .i64 0)).run Tryz.prog W1.drew = .ok () w2 := hup
  have hup2 := hup
  rw [hb1] at hup2
  clear hW1 z0 z1 hmm
  refine wp_region_held_drew (S := (fun W => W.cell? ⟨p, o, none⟩ = some (.slice A 0 c) ∧ W.cell? ⟨p, o + 1, none⟩ = some (.map (some b)))) (by kernel_rfl) ?_ (fun hHeld => ?_)
  · (try dsimp only)
    exact ⟨by assumption, by assumption⟩
  refine wpAnyH_take (i := 0) (v := ?vvx0) (by (simp only [List.getElem?_toArray, List.getElem?_cons_zero, List.getElem?_cons_succ]) <;> rfl) (by kernel_rfl) (by kernel_rfl) (by kernel_rfl) ?hqx0 (Or.inl ⟨by rfl, ?hyx0⟩) (by assumption) ?_
  case hqx0 => exact fun _ _ _ h => h
  case hyx0 => ((intro w hSw; (try dsimp only at hSw); go_simp) <;> (with_reducible rfl))
  (try simp only [Act.put, List.setIfInBounds_toArray, List.set_cons_zero, List.set_cons_succ])
  refine wpAnyH_take (i := 1) (v := ?vvx1) (by (simp only [List.getElem?_toArray, List.getElem?_cons_zero, List.getElem?_cons_succ]) <;> rfl) (by kernel_rfl) (by kernel_rfl) (by kernel_rfl) ?hqx1 (Or.inl ⟨by rfl, ?hyx1⟩) (by assumption) ?_
  case hqx1 => exact fun _ _ _ h => h
  case hyx1 => ((intro w hSw; (try dsimp only at hSw); go_simp) <;> (with_reducible rfl))
  (try simp only [Act.put, List.setIfInBounds_toArray, List.set_cons_zero, List.set_cons_succ])
  refine wpAnyH_take (i := 2) (v := ?vvx2) (by (simp only [List.getElem?_toArray, List.getElem?_cons_zero, List.getElem?_cons_succ]) <;> rfl) (by kernel_rfl) (by kernel_rfl) (by kernel_rfl) ?hqx2 (Or.inl ⟨by rfl, ?hyx2⟩) (by assumption) ?_
  case hqx2 => exact fun _ _ _ h => h
  case hyx2 => ((intro w hSw; (try dsimp only at hSw); go_simp) <;> (with_reducible rfl))
  (try simp only [Act.put, List.setIfInBounds_toArray, List.set_cons_zero, List.set_cons_succ])
  refine wpAnyH_take (i := 3) (v := ?vvx3) (by (simp only [List.getElem?_toArray, List.getElem?_cons_zero, List.getElem?_cons_succ]) <;> rfl) (by kernel_rfl) (by kernel_rfl) (by kernel_rfl) ?hqx3 (Or.inl ⟨by rfl, ?hyx3⟩) (by assumption) ?_
  case hqx3 => exact fun _ _ _ h => h
  case hyx3 => ((intro w hSw; (try dsimp only at hSw); go_simp) <;> (with_reducible rfl))
  (try simp only [Act.put, List.setIfInBounds_toArray, List.set_cons_zero, List.set_cons_succ])
  refine wpAnyH_take (i := 4) (v := ?vvx4) (by (simp only [List.getElem?_toArray, List.getElem?_cons_zero, List.getElem?_cons_succ]) <;> rfl) (by kernel_rfl) (by kernel_rfl) (by kernel_rfl) ?hqx4 (Or.inl ⟨by rfl, ?hyx4⟩) (by assumption) ?_
  case hqx4 => exact fun _ _ _ h => h
  case hyx4 => ((intro w hSw; (try dsimp only at hSw); go_simp) <;> (with_reducible rfl))
  (try simp only [Act.put, List.setIfInBounds_toArray, List.set_cons_zero, List.set_cons_succ])
  refine wpAnyH_take (i := 5) (v := ?vvx5) (by (simp only [List.getElem?_toArray, List.getElem?_cons_zero, List.getElem?_cons_succ]) <;> rfl) (by kernel_rfl) (by kernel_rfl) (by kernel_rfl) ?hqx5 (Or.inl ⟨by rfl, ?hyx5⟩) (by assumption) ?_
  case hqx5 => exact fun _ _ _ h => h
  case hyx5 => ((intro w hSw; (try dsimp only at hSw); go_simp) <;> (with_reducible rfl))
  (try simp only [Act.put, List.setIfInBounds_toArray, List.set_cons_zero, List.set_cons_succ])
  refine wpAnyH_take (i := 6) (v := ?vvx6) (by (simp only [List.getElem?_toArray, List.getElem?_cons_zero, List.getElem?_cons_succ]) <;> rfl) (by kernel_rfl) (by kernel_rfl) (by kernel_rfl) ?hqx6 (Or.inl ⟨by rfl, ?hyx6⟩) (by assumption) ?_
  case hqx6 => exact fun _ _ _ h => h
  case hyx6 => ((intro w hSw; (try dsimp only at hSw); go_simp) <;> (with_reducible rfl))
  (try simp only [Act.put, List.setIfInBounds_toArray, List.set_cons_zero, List.set_cons_succ])
  refine wpAnyH_take (i := 7) (v := ?vvx7) (by (simp only [List.getElem?_toArray, List.getElem?_cons_zero, List.getElem?_cons_succ]) <;> rfl) (by kernel_rfl) (by kernel_rfl) (by kernel_rfl) ?hqx7 (Or.inl ⟨by rfl, ?hyx7⟩) (by assumption) ?_
  case hqx7 => exact fun _ _ _ h => h
  case hyx7 => ((intro w hSw; (try dsimp only at hSw); go_simp) <;> (with_reducible rfl))
  (try simp only [Act.put, List.setIfInBounds_toArray, List.set_cons_zero, List.set_cons_succ])
  refine wpAnyH_take (i := 8) (v := ?vvx8) (by (simp only [List.getElem?_toArray, List.getElem?_cons_zero, List.getElem?_cons_succ]) <;> rfl) (by kernel_rfl) (by kernel_rfl) (by kernel_rfl) ?hqx8 (Or.inl ⟨by rfl, ?hyx8⟩) (by assumption) ?_
  case hqx8 => exact fun _ _ _ h => h
  case hyx8 => ((intro w hSw; (try dsimp only at hSw); go_simp) <;> (with_reducible rfl))
  (try simp only [Act.put, List.setIfInBounds_toArray, List.set_cons_zero, List.set_cons_succ])
  refine wpAnyH_take (i := 9) (v := ?vvx9) (by (simp only [List.getElem?_toArray, List.getElem?_cons_zero, List.getElem?_cons_succ]) <;> rfl) (by kernel_rfl) (by kernel_rfl) (by kernel_rfl) ?hqx9 (Or.inl ⟨by rfl, ?hyx9⟩) (by assumption) ?_
  case hqx9 => exact fun _ _ _ h => h
  case hyx9 => ((intro w hSw; (try dsimp only at hSw); go_simp) <;> (with_reducible rfl))
  (try simp only [Act.put, List.setIfInBounds_toArray, List.set_cons_zero, List.set_cons_succ])
  refine wpAnyH_ready (rs := [10]) (by kernel_rfl) (by simp) ?_
  refine AllReadyH.cons (by (simp only [List.getElem?_toArray, List.getElem?_cons_zero, List.getElem?_cons_succ]) <;> rfl) (fun K hK => ?_) AllReadyH.nil
  go_simp
  refine hK.out _ _ ?_ (fun hHeld => ?_)
  · (try dsimp only)
    exact ⟨by assumption, by assumption⟩
  clear hK K
  (try simp only [Act.put, List.setIfInBounds_toArray, List.set_cons_zero, List.set_cons_succ])
  refine wpAnyH_done (by kernel_rfl) ?_ _
  clear hHeld
  go_wp2_with (at_builtin; refine wpList_append_run _ rfl _ _ _ rfl _ _ _ _ rfl rfl happ ?_)
  go_ret
  exact ⟨rfl, hfin.out _ _ _ hpu hbw⟩
variable {X : List Nat}
theorem push_any (p o : Nat) (t : TypeId) (cur : Array Value) (v : Value) (m : Option Nat) (N : Nat) (es : List (ByteArray × Nat)) (s : ByteArray) (l : Nat) (w : World)
    (hB : Bk p cur t w) (h0 : cur[o]? = some v) (h1 : cur[o + 1]? = some (.map m)) (hS : Stk w v m N es) (hp : p ∉ bks v m) (hno : hasB es s = false) (hs : s.size ≤ 200) (hN : N ≤ 1000000) :
    Calls Tryz.prog 44 #[.pointer (some ⟨p, o, none⟩), .string s, .int .i64 (l : Int)] w fun e w' => e = .returned (.string s) ∧ Pushed p o t cur v m (N + 1) (es ++ [(s, l)]) w w' := by
  have hform : ∃ A c, v = .slice A es.length c := by
    rcases hS.row.2 with ⟨e, h⟩ | ⟨g, cap, cu, e, _⟩
    · exact ⟨none, 0, by rw [e, h]⟩
    · exact ⟨_, _, e⟩
  obtain ⟨A, c, rfl⟩ := hform
  cases m with
  | none =>
    rcases hS.map with ⟨_, rfl⟩ | ⟨b, _, h, _⟩
    · exact push_none p o t cur A c N s l w hB h0 h1 hS hp hs hN
    · cases h
  | some b =>
    refine push_some p o t cur A c b N es s l w hB h0 h1 hS hp (fun k hk e => ?_) hno hs hN
    subst e
    rcases hS.map with ⟨h, _⟩ | ⟨b, D, h, ⟨en, cl, hb, _⟩, _⟩
    · cases h
    · cases h
      rcases hS.row.2 with ⟨e, _⟩ | ⟨g, cap, cu, e, _, hg, _⟩
      · rw [e] at hk; cases hk
      · rw [e] at hk
        cases hk
        rw [hb] at hg
        cases hg
structure Fn where
  nm : ByteArray
  ar : List Int
  rs : Int
def Fs (T : List Nat) (w : World) : List Fn → List Value → Prop
  | [], vs => vs = []
  | f :: fs, vs => ∃ A c r, vs = .string f.nm :: .slice A f.ar.length c :: .int .i64 f.rs :: r ∧ Ir T w A f.ar ∧ f.ar.length ≤ 64 ∧ Fs T w fs r
theorem Fs.off {T S T' : List Nat} {w w' : World} (hf : Off S w w') (hS : ∀ b ∈ S, b ∈ T ∨ w.heap.size ≤ b) (hT : ∀ b ∈ T', b ∈ T ∨ w.heap.size ≤ b) : ∀ {fs : List Fn} {vs : List Value}, Fs T w fs vs → Fs T' w' fs vs
  | [], _, h => h
  | _ :: _, _, ⟨A, c, r, e, h1, h2, h3⟩ => ⟨A, c, r, e, h1.off hf hS hT, h2, Fs.off hf hS hT h3⟩
def Tys (T : List Nat) (w : World) (v : Value) (ty : List Fn) : Prop := ∃ xs, w.ownsRow 0 59 3 v ty.length xs ∧ Fs T w ty xs
theorem xs_off {T T' X : List Nat} {w w' : World} (h : ∀ b ∈ X, b < w.heap.size ∧ b ∉ T) (hz : w.heap.size ≤ w'.heap.size) (hT : ∀ b ∈ T', b ∈ T ∨ w.heap.size ≤ b) : ∀ b ∈ X, b < w'.heap.size ∧ b ∉ T' :=
  fun b hb => ⟨Nat.lt_of_lt_of_le (h b hb).1 hz, fun hm => (hT b hm).elim (h b hb).2 (fun hle => Nat.not_lt.2 hle (h b hb).1)⟩
theorem app_sub {T T' X : List Nat} {n : Nat} (h : ∀ b ∈ T', b ∈ T ∨ n ≤ b) : ∀ b ∈ T' ++ X, b ∈ T ++ X ∨ n ≤ b := by
  intro b hb
  rcases List.mem_append.1 hb with hb | hb
  · exact (h b hb).imp (List.mem_append_left _) id
  · exact .inl (List.mem_append_right _ hb)
structure TbP (X : List Nat) (w : World) (p : Nat) (T : List Nat) (N lv : Nat) (so fu : List (ByteArray × Nat)) (ty : List Fn) (v1 : Value) (m1 : Option Nat) (v2 : Value) (m2 : Option Nat) (v3 : Value) : Prop where
  bk : Bk p #[.int .i64 (lv : Int), v1, .map m1, v2, .map m2, v3] 92 w
  sS : Stk w v1 m1 N so
  fS : Stk w v2 m2 N fu
  tS : Tys (T ++ X) w v3 ty
  eT : T = p :: (bks v1 m1 ++ (bks v2 m2 ++ v3.ownBlock.toList))
  once : T.Nodup
  xs : ∀ b ∈ X, b < w.heap.size ∧ b ∉ T
def Tb (X : List Nat) (w : World) (p : Nat) (T : List Nat) (N lv : Nat) (so fu : List (ByteArray × Nat)) (ty : List Fn) : Prop := (∃ v1 m1 v2 m2 v3, TbP X w p T N lv so fu ty v1 m1 v2 m2 v3) ∧ fu.map Prod.fst = ty.map Fn.nm
theorem Stk.off {T : List Nat} {w w' : World} {v : Value} {m : Option Nat} {N N' : Nat} {es : List (ByteArray × Nat)} (h : Stk w v m N es) (hf : Off T w w') (hn : ∀ k ∈ bks v m, k ∉ T) (hN : N ≤ N') : Stk w' v m N' es :=
  ⟨Off.row h.row hf (fun k hk => hn k (List.mem_append_left _ (by rw [Option.mem_toList]; exact hk))), (Off.map h.map hf (fun k hk => hn k (List.mem_append_right _ (by rw [Option.mem_toList]; exact hk)))).mono hN, Nat.le_trans h.le hN⟩
theorem Stk.lt {w : World} {v : Value} {m : Option Nat} {N : Nat} {es : List (ByteArray × Nat)} (h : Stk w v m N es) : ∀ k ∈ bks v m, k < w.heap.size := by
  intro k hk
  rcases List.mem_append.1 hk with hk | hk
  · rw [Option.mem_toList] at hk; exact row_lt h.row hk
  · rw [Option.mem_toList] at hk; exact map_lt h.map hk
theorem Stk.once {w : World} {v : Value} {m : Option Nat} {N : Nat} {es : List (ByteArray × Nat)} (h : Stk w v m N es) : (bks v m).Nodup := by
  unfold bks
  rw [List.nodup_append]
  refine ⟨by cases v.ownBlock <;> simp, by cases m <;> simp, ?_⟩
  intro a ha b hb e
  subst e
  rw [Option.mem_toList] at ha hb
  rcases h.map with ⟨rfl, _⟩ | ⟨b, D, rfl, ⟨en, cl, hb', _⟩, _⟩
  · cases hb
  · cases hb
    rcases h.row.2 with ⟨e, _⟩ | ⟨g, cap, cu, e, _, hg, _⟩
    · rw [e] at ha; cases ha
    · rw [e] at ha
      cases ha
      rw [hb'] at hg
      cases hg
theorem TbP.lt {w : World} {p : Nat} {T : List Nat} {N lv : Nat} {so fu : List (ByteArray × Nat)} {ty : List Fn} {v1 : Value} {m1 : Option Nat} {v2 : Value} {m2 : Option Nat} {v3 : Value} (h : TbP X w p T N lv so fu ty v1 m1 v2 m2 v3) : ∀ k ∈ T, k < w.heap.size := by
  intro k hk
  rw [h.eT] at hk
  rcases List.mem_cons.1 hk with rfl | hk
  · exact h.bk.lt
  rcases List.mem_append.1 hk with hk | hk
  · exact h.sS.lt k hk
  rcases List.mem_append.1 hk with hk | hk
  · exact h.fS.lt k hk
  · rw [Option.mem_toList] at hk
    obtain ⟨xs, hx, _⟩ := h.tS
    exact row_lt hx hk
theorem TbP.drew {w : World} {p : Nat} {T : List Nat} {N lv : Nat} {so fu : List (ByteArray × Nat)} {ty : List Fn} {v1 : Value} {m1 : Option Nat} {v2 : Value} {m2 : Option Nat} {v3 : Value} (h : TbP X w p T N lv so fu ty v1 m1 v2 m2 v3) : TbP X w.drew p T N lv so fu ty v1 m1 v2 m2 v3 := by
  have hf : Off [] w w.drew := (Off.refl _ _).drew
  obtain ⟨xs, hx, hF⟩ := h.tS
  exact ⟨h.bk, h.sS.off hf (by simp) (Nat.le_refl _), h.fS.off hf (by simp) (Nat.le_refl _), ⟨xs, Off.row hx hf (by simp), Fs.off hf (by simp) (fun b hb => .inl hb) hF⟩, h.eT, h.once, xs_off h.xs hf.size (fun b hb => .inl hb)⟩
theorem tb_sort {w w' : World} {p : Nat} {T : List Nat} {N lv : Nat} {so so' fu : List (ByteArray × Nat)} {ty : List Fn} {v1 : Value} {m1 : Option Nat} {v2 : Value} {m2 : Option Nat} {v3 : Value} (h : TbP X w p T N lv so fu ty v1 m1 v2 m2 v3)
    (hp : Pushed p 1 92 #[.int .i64 (lv : Int), v1, .map m1, v2, .map m2, v3] v1 m1 (N + 1) so' w w') :
    ∃ T', (∃ v1 m1 v2 m2 v3, TbP X w' p T' (N + 1) lv so' fu ty v1 m1 v2 m2 v3) ∧ Off T w w' ∧ ∀ b ∈ T', b ∈ T ∨ w.heap.size ≤ b := by
  obtain ⟨v', m', hS', hB', hO, hnew⟩ := hp
  obtain ⟨xs, hx, hF⟩ := h.tS
  have hlt := h.lt
  have ho := h.once
  have hT := h.eT
  subst hT
  simp only [List.nodup_cons, List.nodup_append, List.mem_append, not_or] at ho
  obtain ⟨⟨n1, n2, n3⟩, o1, ⟨o2, o3, o4⟩, o5⟩ := ho
  have hsub : ∀ b ∈ p :: bks v1 m1, b ∈ p :: (bks v1 m1 ++ (bks v2 m2 ++ v3.ownBlock.toList)) := by
    intro b hb
    rcases List.mem_cons.1 hb with rfl | hb
    · simp
    · exact List.mem_cons_of_mem _ (List.mem_append_left _ hb)
  have hsub2 : ∀ b ∈ p :: (bks v' m' ++ (bks v2 m2 ++ v3.ownBlock.toList)), b ∈ p :: (bks v1 m1 ++ (bks v2 m2 ++ v3.ownBlock.toList)) ∨ w.heap.size ≤ b := by
    intro b hb
    rcases List.mem_cons.1 hb with rfl | hb
    · exact .inl (by simp)
    · rcases List.mem_append.1 hb with hb | hb
      · exact (hnew b hb).imp (fun h => List.mem_cons_of_mem _ (List.mem_append_left _ h)) id
      · exact .inl (List.mem_cons_of_mem _ (List.mem_append_right _ hb))
  have hX : ∀ b ∈ bks v2 m2 ++ v3.ownBlock.toList, b < w.heap.size := fun b hb => hlt b (List.mem_cons_of_mem _ (List.mem_append_right _ hb))
  have hpl := h.bk.lt
  refine ⟨p :: (bks v' m' ++ (bks v2 m2 ++ v3.ownBlock.toList)), ⟨v', m', v2, m2, v3, hB', hS', h.fS.off hO ?_ (Nat.le_succ _), ⟨xs, Off.row hx hO ?_, Fs.off hO (fun b hb => .inl (List.mem_append_left _ (hsub b hb))) (app_sub hsub2) hF⟩, rfl, ?_, xs_off h.xs hO.size hsub2⟩, hO.more hsub, hsub2⟩
  · intro k hk hm
    rcases List.mem_cons.1 hm with rfl | hm
    · exact n2 hk
    · exact o5 k hm k (.inl hk) rfl
  · intro k hk hm
    have hk : k ∈ v3.ownBlock.toList := by rw [Option.mem_toList]; exact hk
    rcases List.mem_cons.1 hm with rfl | hm
    · exact n3 hk
    · exact o5 k hm k (.inr hk) rfl
  · simp only [List.nodup_cons, List.nodup_append, List.mem_append, not_or]
    refine ⟨⟨fun hm => ?_, n2, n3⟩, hS'.once, ⟨o2, o3, o4⟩, fun a ha b hb e => ?_⟩
    · rcases hnew p hm with hm | hm
      · exact n1 hm
      · omega
    · subst e
      rcases hnew a ha with hm | hm
      · exact o5 a hm a hb rfl
      · have := hX a (List.mem_append.2 hb)
        omega
theorem sort_yes (p : Nat) (T : List Nat) (N lv : Nat) (so fu : List (ByteArray × Nat)) (ty : List Fn) (s : ByteArray) (w : World) (h : Tb X w p T N lv so fu ty) (hf : freeB so s = true) (hs : s.size ≤ maxLen) (hN : N ≤ 1000000) :
    Calls Tryz.prog 20 #[.pointer (some ⟨p, 0, none⟩), .string s] w fun e w' => e = .returned (.tuple #[.int .i64 ((so.length : Int) + 2), .int .i64 0]) ∧ ∃ T', Tb X w' p T' (N + 1) lv (so ++ [(s, lv)]) fu ty ∧ Off T w w' ∧ ∀ b ∈ T', b ∈ T ∨ w.heap.size ≤ b := by
  obtain ⟨⟨v1, m1, v2, m2, v3, h⟩, hnames⟩ := h
  have hfree := free_any p 1 m1 N so s w (h.bk.cell rfl) h.sS.map hs
  rw [hf] at hfree
  have hnm : s.size ≤ 200 ∧ hasB so s = false := by
    simp only [freeB, nameB, Bool.and_eq_true, decide_eq_true_eq, Bool.not_eq_true'] at hf
    exact ⟨hf.1.1.2, hf.2⟩
  have hn1 : so.length ≤ 1000000 := Nat.le_trans h.sS.le hN
  have hform : ∃ A c, v1 = .slice A so.length c := by
    rcases h.sS.row.2 with ⟨e, h⟩ | ⟨g, cap, cu, e, _⟩
    · exact ⟨none, 0, by rw [e, h]⟩
    · exact ⟨_, _, e⟩
  obtain ⟨A, c, rfl⟩ := hform
  have hlen := len_any p 1 so.length c A w (h.bk.cell rfl)
  have a0 : w.drew.cell? ⟨p, 0, none⟩ = some (.int .i64 (lv : Int)) := h.drew.bk.cell rfl
  have hpn : p ∉ bks (.slice A so.length c) m1 := by
    have := h.once
    rw [h.eT] at this
    simp only [List.nodup_cons, List.mem_append, not_or] at this
    exact this.1.1
  have hpush := push_any p 1 92 _ (.slice A so.length c) m1 N so s lv w.drew h.drew.bk rfl rfl h.drew.sS hpn hnm.2 hnm.1 hN
  have hcell : ∀ w', Pushed p 1 92 #[.int .i64 (lv : Int), .slice A so.length c, .map m1, v2, .map m2, v3] (.slice A so.length c) m1 (N + 1) (so ++ [(s, lv)]) w.drew w' → w'.cell? ⟨p, 0, none⟩ = some (.int .i64 (lv : Int)) := by
    rintro w' ⟨v', m', _, hB', _⟩
    exact hB'.cell rfl
  have hcell := hide hcell
  have hpush := hide hpush
  have h := hide h
  clear hpn hnm hf hs
  obtain ⟨n, hn⟩ : ∃ n, n = so.length := ⟨_, rfl⟩
  go_enter Tryz.func20, Tryz.ntmps20
  go_wp2_with first
    | (go_at_call 42; (with_reducible refine hfree.mono ?_); rintro e w1 ⟨rfl, rfl⟩)
    | (go_at_call 43; (with_reducible refine hlen.mono ?_); rintro e w1 ⟨rfl, rfl⟩)
  refine wp_region_held_drew (S := (fun W => W.cell? ⟨p, 0, none⟩ = some (.int .i64 (lv : Int)))) (by kernel_rfl) ?_ (fun hHeld => ?_)
  · (try dsimp only)
    exact a0
  refine wpAnyH_take (i := 0) (v := ?vvx0) (by (simp only [List.getElem?_toArray, List.getElem?_cons_zero, List.getElem?_cons_succ]) <;> rfl) (by kernel_rfl) (by kernel_rfl) (by kernel_rfl) ?hqx0 (Or.inl ⟨by rfl, ?hyx0⟩) (by assumption) ?_
  case hqx0 => exact fun _ _ _ h => h
  case hyx0 => ((intro w hSw; (try dsimp only at hSw); go_simp) <;> (with_reducible rfl))
  (try simp only [Act.put, List.setIfInBounds_toArray, List.set_cons_zero, List.set_cons_succ])
  refine wpAnyH_take (i := 1) (v := ?vvx1) (by (simp only [List.getElem?_toArray, List.getElem?_cons_zero, List.getElem?_cons_succ]) <;> rfl) (by kernel_rfl) (by kernel_rfl) (by kernel_rfl) ?hqx1 (Or.inl ⟨by rfl, ?hyx1⟩) (by assumption) ?_
  case hqx1 => exact fun _ _ _ h => h
  case hyx1 => ((intro w hSw; (try dsimp only at hSw); go_simp) <;> (with_reducible rfl))
  (try simp only [Act.put, List.setIfInBounds_toArray, List.set_cons_zero, List.set_cons_succ])
  refine wpAnyH_take (i := 2) (v := ?vvx2) (by (simp only [List.getElem?_toArray, List.getElem?_cons_zero, List.getElem?_cons_succ]) <;> rfl) (by kernel_rfl) (by kernel_rfl) (by kernel_rfl) ?hqx2 (Or.inl ⟨by rfl, ?hyx2⟩) (by assumption) ?_
  case hqx2 => exact fun _ _ _ h => h
  case hyx2 => ((intro w hSw; (try dsimp only at hSw); go_simp) <;> (with_reducible rfl))
  (try simp only [Act.put, List.setIfInBounds_toArray, List.set_cons_zero, List.set_cons_succ])
  refine wpAnyH_take (i := 3) (v := ?vvx3) (by (simp only [List.getElem?_toArray, List.getElem?_cons_zero, List.getElem?_cons_succ]) <;> rfl) (by kernel_rfl) (by kernel_rfl) (by kernel_rfl) ?hqx3 (Or.inl ⟨by rfl, ?hyx3⟩) (by assumption) ?_
  case hqx3 => exact fun _ _ _ h => h
  case hyx3 => ((intro w hSw; (try dsimp only at hSw); go_simp) <;> (with_reducible rfl))
  (try simp only [Act.put, List.setIfInBounds_toArray, List.set_cons_zero, List.set_cons_succ])
  refine wpAnyH_take (i := 4) (v := ?vvx4) (by (simp only [List.getElem?_toArray, List.getElem?_cons_zero, List.getElem?_cons_succ]) <;> rfl) (by kernel_rfl) (by kernel_rfl) (by kernel_rfl) ?hqx4 (Or.inl ⟨by rfl, ?hyx4⟩) (by assumption) ?_
  case hqx4 => exact fun _ _ _ h => h
  case hyx4 => ((intro w hSw; (try dsimp only at hSw); go_simp) <;> (with_reducible rfl))
  (try simp only [Act.put, List.setIfInBounds_toArray, List.set_cons_zero, List.set_cons_succ])
  refine wpAnyH_take (i := 5) (v := ?vvx5) (by (simp only [List.getElem?_toArray, List.getElem?_cons_zero, List.getElem?_cons_succ]) <;> rfl) (by kernel_rfl) (by kernel_rfl) (by kernel_rfl) ?hqx5 (Or.inl ⟨by rfl, ?hyx5⟩) (by assumption) ?_
  case hqx5 => exact fun _ _ _ h => h
  case hyx5 => ((intro w hSw; (try dsimp only at hSw); go_simp) <;> (with_reducible rfl))
  (try simp only [Act.put, List.setIfInBounds_toArray, List.set_cons_zero, List.set_cons_succ])
  refine wpAnyH_take (i := 6) (v := ?vvx6) (by (simp only [List.getElem?_toArray, List.getElem?_cons_zero, List.getElem?_cons_succ]) <;> rfl) (by kernel_rfl) (by kernel_rfl) (by kernel_rfl) ?hqx6 (Or.inl ⟨by rfl, ?hyx6⟩) (by assumption) ?_
  case hqx6 => exact fun _ _ _ h => h
  case hyx6 => ((intro w hSw; (try dsimp only at hSw); go_simp) <;> (with_reducible rfl))
  (try simp only [Act.put, List.setIfInBounds_toArray, List.set_cons_zero, List.set_cons_succ])
  refine wpAnyH_take (i := 7) (v := ?vvx7) (by (simp only [List.getElem?_toArray, List.getElem?_cons_zero, List.getElem?_cons_succ]) <;> rfl) (by kernel_rfl) (by kernel_rfl) (by kernel_rfl) ?hqx7 (Or.inl ⟨by rfl, ?hyx7⟩) (by assumption) ?_
  case hqx7 => exact fun _ _ _ h => h
  case hyx7 => ((intro w hSw; (try dsimp only at hSw); go_simp) <;> (with_reducible rfl))
  (try simp only [Act.put, List.setIfInBounds_toArray, List.set_cons_zero, List.set_cons_succ])
  refine wpAnyH_ready (rs := [8]) (by kernel_rfl) (by simp) ?_
  refine AllReadyH.cons (by (simp only [List.getElem?_toArray, List.getElem?_cons_zero, List.getElem?_cons_succ]) <;> rfl) (fun K hK => ?_) AllReadyH.nil
  go_simp
  go_at_call 44; (with_reducible refine hpush.out.mono ?_); rintro e w1 ⟨rfl, hpu⟩; have a0 := hcell.out _ hpu
  (try go_wp2_with fail)
  refine hK.out _ _ ?_ (fun hHeld => ?_)
  · (try dsimp only)
    exact (by assumption)
  clear hK K
  (try simp only [Act.put, List.setIfInBounds_toArray, List.set_cons_zero, List.set_cons_succ])
  refine wpAnyH_done (by kernel_rfl) ?_ _
  (try clear hHeld)
  go_wp2
  go_ret2
  obtain ⟨T', h1, h2, h3⟩ := tb_sort h.out.drew hpu
  exact ⟨rfl, T', ⟨h1, hnames⟩, ((Off.refl T _).drew).trans h2 (fun b hb => .inl hb), h3⟩
theorem new_any (w : World) (hX : ∀ b ∈ X, b < w.heap.size) : Calls Tryz.prog 19 #[] w fun e w' => e = .returned (.pointer (some ⟨w.heap.size, 0, none⟩)) ∧ Tb X w' w.heap.size [w.heap.size] 0 0 [] [] [] ∧ Below w.heap.size w w' := by
  have key : Tb X (w.alloc (.cells #[.int .i64 0, .slice none 0 0, .map none, .slice none 0 0, .map none, .slice none 0 0] 92)) w.heap.size [w.heap.size] 0 0 [] [] [] :=
    ⟨⟨.slice none 0 0, none, .slice none 0 0, none, .slice none 0 0, Bk.new _ _ w, ⟨World.ownsRow_nil _ _ _ _, .inl ⟨rfl, rfl⟩, Nat.le_refl _⟩, ⟨World.ownsRow_nil _ _ _ _, .inl ⟨rfl, rfl⟩, Nat.le_refl _⟩, ⟨[], World.ownsRow_nil _ _ _ _, rfl⟩, rfl, by simp, fun b hb => ⟨by have := hX b hb; simp; omega, by have := hX b hb; simp; omega⟩⟩, rfl⟩
  have key := hide key
  go_enter Tryz.func19, Tryz.ntmps19
  go_wp2
  go_ret
  exact ⟨rfl, key.out, (Below.refl _ _).alloc (Nat.le_refl _) _⟩
variable {X : List Nat}
theorem tb_name {w w' : World} {p : Nat} {T : List Nat} {N lv : Nat} {so fu fu' : List (ByteArray × Nat)} {ty : List Fn} {v1 : Value} {m1 : Option Nat} {v2 : Value} {m2 : Option Nat} {v3 : Value} (h : TbP X w p T N lv so fu ty v1 m1 v2 m2 v3)
    (hp : Pushed p 3 92 #[.int .i64 (lv : Int), v1, .map m1, v2, .map m2, v3] v2 m2 (N + 1) fu' w w') :
    ∃ T' v2' m2', TbP X w' p T' (N + 1) lv so fu' ty v1 m1 v2' m2' v3 ∧ Off T w w' ∧ ∀ b ∈ T', b ∈ T ∨ w.heap.size ≤ b := by
  obtain ⟨v', m', hS', hB', hO, hnew⟩ := hp
  obtain ⟨xs, hx, hF⟩ := h.tS
  have hlt := h.lt
  have ho := h.once
  have hT := h.eT
  subst hT
  simp only [List.nodup_cons, List.nodup_append, List.mem_append, not_or] at ho
  obtain ⟨⟨n1, n2, n3⟩, o1, ⟨o2, o3, o4⟩, o5⟩ := ho
  have hsub : ∀ b ∈ p :: bks v2 m2, b ∈ p :: (bks v1 m1 ++ (bks v2 m2 ++ v3.ownBlock.toList)) := by
    intro b hb
    rcases List.mem_cons.1 hb with rfl | hb
    · simp
    · exact List.mem_cons_of_mem _ (List.mem_append_right _ (List.mem_append_left _ hb))
  have hsub2 : ∀ b ∈ p :: (bks v1 m1 ++ (bks v' m' ++ v3.ownBlock.toList)), b ∈ p :: (bks v1 m1 ++ (bks v2 m2 ++ v3.ownBlock.toList)) ∨ w.heap.size ≤ b := by
    intro b hb
    rcases List.mem_cons.1 hb with rfl | hb
    · exact .inl (by simp)
    · rcases List.mem_append.1 hb with hb | hb
      · exact .inl (List.mem_cons_of_mem _ (List.mem_append_left _ hb))
      · rcases List.mem_append.1 hb with hb | hb
        · exact (hnew b hb).imp (fun h => List.mem_cons_of_mem _ (List.mem_append_right _ (List.mem_append_left _ h))) id
        · exact .inl (List.mem_cons_of_mem _ (List.mem_append_right _ (List.mem_append_right _ hb)))
  have hX1 : ∀ b ∈ bks v1 m1, b < w.heap.size := fun b hb => hlt b (List.mem_cons_of_mem _ (List.mem_append_left _ hb))
  have hX3 : ∀ b ∈ v3.ownBlock.toList, b < w.heap.size := fun b hb => hlt b (List.mem_cons_of_mem _ (List.mem_append_right _ (List.mem_append_right _ hb)))
  have hpl := h.bk.lt
  refine ⟨p :: (bks v1 m1 ++ (bks v' m' ++ v3.ownBlock.toList)), v', m', ⟨hB', h.sS.off hO ?_ (Nat.le_succ _), hS', ⟨xs, Off.row hx hO ?_, Fs.off hO (fun b hb => .inl (List.mem_append_left _ (hsub b hb))) (app_sub hsub2) hF⟩, rfl, ?_, xs_off h.xs hO.size hsub2⟩, hO.more hsub, hsub2⟩
  · intro k hk hm
    rcases List.mem_cons.1 hm with rfl | hm
    · exact n1 hk
    · exact o5 k hk k (.inl hm) rfl
  · intro k hk hm
    have hk : k ∈ v3.ownBlock.toList := by rw [Option.mem_toList]; exact hk
    rcases List.mem_cons.1 hm with rfl | hm
    · exact n3 hk
    · exact o4 k hm k hk rfl
  · simp only [List.nodup_cons, List.nodup_append, List.mem_append, not_or]
    refine ⟨⟨n1, fun hm => ?_, n3⟩, o1, ⟨hS'.once, o3, fun a ha b hb e => ?_⟩, fun a ha b hb e => ?_⟩
    · rcases hnew p hm with hm | hm
      · exact n2 hm
      · omega
    · subst e
      rcases hnew a ha with hm | hm
      · exact o4 a hm a hb rfl
      · have := hX3 a hb
        omega
    · subst e
      rcases hb with hb | hb
      · rcases hnew a hb with hm | hm
        · exact o5 a ha a (.inl hm) rfl
        · have := hX1 a ha
          omega
      · exact o5 a ha a (.inr hb) rfl
theorem Fs.length {T : List Nat} {w : World} : ∀ {fs : List Fn} {vs : List Value}, Fs T w fs vs → vs.length = fs.length * 3
  | [], _, h => by cases h; rfl
  | _ :: fs, _, ⟨A, c, r, e, _, _, h⟩ => by
    rw [e]
    have := Fs.length h
    simp only [List.length_cons, this]
    omega
theorem Fs.snoc {T : List Nat} {w : World} {f : Fn} {A : Option Addr} {c : Nat} (hi : Ir T w A f.ar) (hl : f.ar.length ≤ 64) : ∀ {fs : List Fn} {vs : List Value}, Fs T w fs vs → Fs T w (fs ++ [f]) (vs ++ [.string f.nm, .slice A f.ar.length c, .int .i64 f.rs])
  | [], _, h => by cases h; exact ⟨A, c, [], rfl, hi, hl, rfl⟩
  | _ :: _, _, ⟨A', c', r, e, h1, h2, h3⟩ => by
    subst e
    exact ⟨A', c', r ++ [.string f.nm, .slice A f.ar.length c, .int .i64 f.rs], rfl, h1, h2, Fs.snoc hi hl h3⟩
theorem app_fun (w : World) (v : Value) (n : Nat) (xs : List Value) (hrow : w.ownsRow 0 59 3 v n xs) (nm : ByteArray) (A : Option Addr) (k c : Nat) (rs : Int) (hl : n ≤ 1000000) :
    ∃ v' w', (∀ ty, (Builtin.append_ #[46, 46] ty #[v, .slice (some ⟨w.heap.size, 0, none⟩) 1 1]).run Tryz.prog (w.alloc (.cells #[.string nm, .slice A k c, .int .i64 rs] 59)) = .ok v' w') ∧
      w'.ownsRow 0 59 3 v' (n + 1) (xs ++ [.string nm, .slice A k c, .int .i64 rs]) ∧ Off v.ownBlock.toList w w' ∧ (∀ b, v'.ownBlock = some b → v.ownBlock = some b ∨ w.heap.size ≤ b) := by
  obtain ⟨i, hinf, hz, h1, h8⟩ := info_parts (P := Tryz.prog) (e := 59) (z := .agg #[.string ⟨#[]⟩, .slice none 0 0, .int .i64 0]) (size := 3) (bytes := 48) (by kernel_rfl)
  have hB : Bk w.heap.size #[.string nm, .slice A k c, .int .i64 rs] 59 (w.alloc (.cells #[.string nm, .slice A k c, .int .i64 rs] 59)) := Bk.new _ _ _
  have hcells : ∀ j u, ([.string nm, .slice A k c, .int .i64 rs] : List Value)[j]? = some u → (w.alloc (.cells #[.string nm, .slice A k c, .int .i64 rs] 59)).cell? ((⟨w.heap.size, 0, none⟩ : Addr).add j) = some u := by
    intro j u hu
    rw [Addr.add_lit, Nat.zero_add]
    refine hB.cell ?_
    rw [← Array.getElem?_toList]
    exact hu
  obtain ⟨v', w', hr, h2, h3, h4, h5⟩ := run_append_own_at (P := Tryz.prog) (w.alloc (.cells #[.string nm, .slice A k c, .int .i64 rs] 59)) 0 46 0 59 i (.agg #[.string ⟨#[]⟩, .slice none 0 0, .int .i64 0]) 3 48 Tryz.underlying46 hinf hz h1 h8 rfl (by decide) v n xs (hrow.alloc _) ⟨w.heap.size, 0, none⟩ 1 1 [.string nm, .slice A k c, .int .i64 rs] rfl hcells
    (by intro u hu; simp at hu; rcases hu with rfl | rfl | rfl <;> rfl) (by unfold maxLen; omega) (by omega) (Nat.zero_le _)
  refine ⟨v', w', fun ty => hr, h2, ?_, ?_⟩
  · exact ((Off.refl _ _).alloc _).trans (Off.of_grown (T := v.ownBlock.toList) h3 (fun k hk => .inl (by simp [hk]))) (fun b hb => .inl hb)
  · intro b hb
    rcases h5 with h5 | h5
    · exact .inl (h5 ▸ hb)
    · rw [h5] at hb
      have : (w.alloc (.cells #[.string nm, .slice A k c, .int .i64 rs] 59)).heap.size = w.heap.size + 1 := by simp
      injection hb with hb
      exact .inr (by omega)
theorem tb_type {w w2 : World} {p : Nat} {T : List Nat} {N lv : Nat} {so fu : List (ByteArray × Nat)} {ty : List Fn} {v1 : Value} {m1 : Option Nat} {v2 : Value} {m2 : Option Nat} {v3 v3' : Value} {f : Fn} {xs : List Value} {A : Option Addr} {c : Nat}
    (h : TbP X w p T N lv so fu ty v1 m1 v2 m2 v3) (hF : Fs (T ++ X) w ty xs) (hi : ∀ S : List Nat, (∀ b ∈ S, b ∈ T ++ X ∨ w.heap.size ≤ b) → Ir S w A f.ar) (hl : f.ar.length ≤ 64)
    (hrow : w2.ownsRow 0 59 3 v3' (ty.length + 1) (xs ++ [.string f.nm, .slice A f.ar.length c, .int .i64 f.rs])) (hO : Off v3.ownBlock.toList w w2) (hloc : ∀ b, v3'.ownBlock = some b → v3.ownBlock = some b ∨ w.heap.size ≤ b) :
    ∃ T', (∃ v1 m1 v2 m2 v3, TbP X (w2.setCell ⟨p, 5, none⟩ v3') p T' N lv so fu (ty ++ [f]) v1 m1 v2 m2 v3) ∧ Off T w (w2.setCell ⟨p, 5, none⟩ v3') ∧ ∀ b ∈ T', b ∈ T ∨ w.heap.size ≤ b := by
  have hlt := h.lt
  have ho := h.once
  have hT := h.eT
  subst hT
  simp only [List.nodup_cons, List.nodup_append, List.mem_append, not_or] at ho
  obtain ⟨⟨n1, n2, n3⟩, o1, ⟨o2, o3, o4⟩, o5⟩ := ho
  have hpl := h.bk.lt
  have hO2 : Off (p :: v3.ownBlock.toList) w (w2.setCell ⟨p, 5, none⟩ v3') := (hO.more (fun b hb => List.mem_cons_of_mem _ hb)).setCell _ _ (.inl (by simp))
  have hsub : ∀ b ∈ p :: v3.ownBlock.toList, b ∈ p :: (bks v1 m1 ++ (bks v2 m2 ++ v3.ownBlock.toList)) := by
    intro b hb
    rcases List.mem_cons.1 hb with rfl | hb
    · simp
    · exact List.mem_cons_of_mem _ (List.mem_append_right _ (List.mem_append_right _ hb))
  have hsub2 : ∀ b ∈ p :: (bks v1 m1 ++ (bks v2 m2 ++ v3'.ownBlock.toList)), b ∈ p :: (bks v1 m1 ++ (bks v2 m2 ++ v3.ownBlock.toList)) ∨ w.heap.size ≤ b := by
    intro b hb
    rcases List.mem_cons.1 hb with rfl | hb
    · exact .inl (by simp)
    · rcases List.mem_append.1 hb with hb | hb
      · exact .inl (List.mem_cons_of_mem _ (List.mem_append_left _ hb))
      · rcases List.mem_append.1 hb with hb | hb
        · exact .inl (List.mem_cons_of_mem _ (List.mem_append_right _ (List.mem_append_left _ hb)))
        · rw [Option.mem_toList] at hb
          exact (hloc b hb).imp (fun h => List.mem_cons_of_mem _ (List.mem_append_right _ (List.mem_append_right _ (by rw [Option.mem_toList]; exact h)))) id
  have hX1 : ∀ b ∈ bks v1 m1, b < w.heap.size := fun b hb => hlt b (List.mem_cons_of_mem _ (List.mem_append_left _ hb))
  have hX2 : ∀ b ∈ bks v2 m2, b < w.heap.size := fun b hb => hlt b (List.mem_cons_of_mem _ (List.mem_append_right _ (List.mem_append_left _ hb)))
  have hn3' : ∀ k, v3'.ownBlock = some k → k ≠ p := by
    intro k hk e
    subst e
    rcases hloc k hk with h | h
    · exact n3 (by rw [Option.mem_toList]; exact h)
    · omega
  have hO4 : Off [p] w2 (w2.setCell ⟨p, 5, none⟩ v3') := (Off.refl _ _).setCell _ _ (.inl (by simp))
  refine ⟨p :: (bks v1 m1 ++ (bks v2 m2 ++ v3'.ownBlock.toList)), ⟨v1, m1, v2, m2, v3', (h.bk.off hO n3).set _ rfl, h.sS.off hO2 ?_ (Nat.le_refl _), h.fS.off hO2 ?_ (Nat.le_refl _), ⟨xs ++ [.string f.nm, .slice A f.ar.length c, .int .i64 f.rs], ?_, Fs.snoc (c := c) ((hi _ (fun b hb => .inl hb)).off hO2 (fun b hb => .inl (List.mem_append_left _ (hsub b hb))) (app_sub hsub2)) hl (Fs.off hO2 (fun b hb => .inl (List.mem_append_left _ (hsub b hb))) (app_sub hsub2) hF)⟩, rfl, ?_, xs_off h.xs hO2.size hsub2⟩, hO2.more hsub, hsub2⟩
  · intro k hk hm
    rcases List.mem_cons.1 hm with rfl | hm
    · exact n1 hk
    · exact o5 k hk k (.inr hm) rfl
  · intro k hk hm
    rcases List.mem_cons.1 hm with rfl | hm
    · exact n2 hk
    · exact o4 k hk k hm rfl
  · have : (ty ++ [f]).length = ty.length + 1 := by simp
    rw [this]
    exact Off.row hrow hO4 (fun k hk hm => by simp at hm; exact hn3' k hk hm)
  · simp only [List.nodup_cons, List.nodup_append, List.mem_append, not_or]
    refine ⟨⟨n1, n2, fun hm => ?_⟩, o1, ⟨o2, by cases v3'.ownBlock <;> simp, fun a ha b hb e => ?_⟩, fun a ha b hb e => ?_⟩
    · rw [Option.mem_toList] at hm
      exact hn3' p hm rfl
    · subst e
      rw [Option.mem_toList] at hb
      rcases hloc a hb with hm | hm
      · exact o4 a ha a (by rw [Option.mem_toList]; exact hm) rfl
      · have := hX2 a ha
        omega
    · subst e
      rcases hb with hb | hb
      · exact o5 a ha a (.inl hb) rfl
      · rw [Option.mem_toList] at hb
        rcases hloc a hb with hm | hm
        · exact o5 a ha a (.inr (by rw [Option.mem_toList]; exact hm)) rfl
        · have := hX1 a ha
          omega
variable {X : List Nat}
theorem TbP.off {S : List Nat} {w w' : World} {p : Nat} {T : List Nat} {N lv : Nat} {so fu : List (ByteArray × Nat)} {ty : List Fn} {v1 : Value} {m1 : Option Nat} {v2 : Value} {m2 : Option Nat} {v3 : Value} (h : TbP X w p T N lv so fu ty v1 m1 v2 m2 v3) (hf : Off [] w w') : TbP X w' p T N lv so fu ty v1 m1 v2 m2 v3 := by
  obtain ⟨xs, hx, hF⟩ := h.tS
  exact ⟨h.bk.off hf (by simp), h.sS.off hf (by simp) (Nat.le_refl _), h.fS.off hf (by simp) (Nat.le_refl _), ⟨xs, Off.row hx hf (by simp), Fs.off hf (by simp) (fun b hb => .inl hb) hF⟩, h.eT, h.once, xs_off h.xs hf.size (fun b hb => .inl hb)⟩
theorem setCell_same {w : World} {g j : Nat} {cur : Array Value} {t : TypeId} {v : Value} (h : Bk g cur t w) (hv : cur[j]? = some v) : w.setCell ⟨g, j, none⟩ v = w := by
  have hh : (w.setCell ⟨g, j, none⟩ v).heap = w.heap := by
    unfold World.setCell
    apply Array.ext_getElem?
    intro k
    simp only [Array.getElem?_modify]
    by_cases hk : g = k
    · subst hk
      unfold Bk at h
      rw [h]
      simp [set_same hv, Addr.spot]
    · simp [hk]
  have h2 : ∀ x : World, x.heap = w.heap → x.tape = w.tape → x.drawn = w.drawn → x.os = w.os → x.output = w.output → x = w := by
    rintro ⟨⟩ h1 h2 h3 h4 h5
    cases w
    simp only at h1 h2 h3 h4 h5
    subst h1 h2 h3 h4 h5
    rfl
  exact h2 _ hh rfl rfl rfl rfl
theorem wp_append_run {P : Program} (w : World) {o : Oper} {a : Act} {K : Act → World → Prop} {Q : Exit → Act → World → Prop} (s x : Operand) (t : TypeId)
    (ho : o.op = .call { callee := .builtin .append, args := #[s, x], argTypes := #[t, t] }) (u v r : Value) (w' : World) (hs : a.eval s = u) (hx : a.eval x = v)
    (hrun : ∀ ty, (Builtin.append_ #[t, t] ty #[u, v]).run P w = .ok r w') (hK : K (a.put o.dst r) w') : Oper.wp P o a w K Q := by
  unfold Oper.wp execOp
  simp only [ho, resolve, invoke, builtin, Sem.run_bind, Sem.run_pure, Result.andThen_ok, List.map_toArray, List.map_cons, List.map_nil, hs, hx, hrun]
  exact hK
structure FunMid (X : List Nat) (g p : Nat) (T : List Nat) (N lv : Nat) (so fu : List (ByteArray × Nat)) (ty : List Fn) (v1 : Value) (m1 : Option Nat) (v2 : Value) (m2 : Option Nat) (v3 : Value) (nm : ByteArray) (B : Option Addr) (ar : List Int) (d : Nat) (rs : Int) (w : World) : Prop where
  tb : TbP X w p T N lv so fu ty v1 m1 v2 m2 v3
  bx : Bk g #[.string nm, .slice B ar.length d, .int .i64 rs] 59 w
  gT : g ∉ T
  ir : Ir T w B ar
theorem FunMid.off {g p : Nat} {T : List Nat} {N lv : Nat} {so fu : List (ByteArray × Nat)} {ty : List Fn} {v1 : Value} {m1 : Option Nat} {v2 : Value} {m2 : Option Nat} {v3 : Value} {nm : ByteArray} {B : Option Addr} {ar : List Int} {d : Nat} {rs : Int} {w w' : World} (h : FunMid X g p T N lv so fu ty v1 m1 v2 m2 v3 nm B ar d rs w) (hf : Off [] w w') : FunMid X g p T N lv so fu ty v1 m1 v2 m2 v3 nm B ar d rs w' :=
  ⟨h.tb.off (S := []) hf, h.bx.off hf (by simp), h.gT, h.ir.off hf (by simp) (fun b hb => .inl hb)⟩
theorem FunMid.start {p : Nat} {T : List Nat} {N lv : Nat} {so fu : List (ByteArray × Nat)} {ty : List Fn} {v1 : Value} {m1 : Option Nat} {v2 : Value} {m2 : Option Nat} {v3 : Value} {nm : ByteArray} {B : Option Addr} {ar : List Int} {d : Nat} {rs : Int} {w : World} (h : TbP X w p T N lv so fu ty v1 m1 v2 m2 v3) (hi : Ir T w B ar) :
    FunMid X w.heap.size p T N lv so fu ty v1 m1 v2 m2 v3 nm B ar d rs (w.alloc (.cells #[.string nm, .slice B ar.length d, .int .i64 rs] 59)) :=
  ⟨h.off (S := []) ((Off.refl _ _).alloc _), Bk.new _ _ _, fun hm => Nat.lt_irrefl _ (h.lt _ hm), hi.off ((Off.refl [] _).alloc _) (by simp) (fun b hb => .inl hb)⟩
theorem FunMid.push {g p : Nat} {T : List Nat} {N lv : Nat} {so fu fu' : List (ByteArray × Nat)} {ty : List Fn} {v1 : Value} {m1 : Option Nat} {v2 : Value} {m2 : Option Nat} {v3 : Value} {nm : ByteArray} {B : Option Addr} {ar : List Int} {d : Nat} {rs : Int} {w w' : World} (h : FunMid X g p T N lv so fu ty v1 m1 v2 m2 v3 nm B ar d rs w)
    (hp : Pushed p 3 92 #[.int .i64 (lv : Int), v1, .map m1, v2, .map m2, v3] v2 m2 (N + 1) fu' w w') :
    ∃ T' v2' m2', FunMid X g p T' (N + 1) lv so fu' ty v1 m1 v2' m2' v3 nm B ar d rs w' ∧ Off T w w' ∧ ∀ b ∈ T', b ∈ T ∨ w.heap.size ≤ b := by
  obtain ⟨T', v2', m2', h1, h2, h3⟩ := tb_name h.tb hp
  exact ⟨T', v2', m2', ⟨h1, h.bx.off h2 h.gT, fun hm => (h3 g hm).elim h.gT (fun hle => Nat.not_lt.2 hle h.bx.lt), h.ir.off h2 (fun b hb => .inl hb) h3⟩, h2, h3⟩
theorem FunMid.fin {g p : Nat} {T : List Nat} {N lv : Nat} {so fu : List (ByteArray × Nat)} {ty : List Fn} {v1 : Value} {m1 : Option Nat} {v2 : Value} {m2 : Option Nat} {A3 : Option Addr} {k3 : Nat} {nm : ByteArray} {B : Option Addr} {ar : List Int} {d : Nat} {rs : Int} {w : World} (h : FunMid X g p T N lv so fu ty v1 m1 v2 m2 (.slice A3 ty.length k3) nm B ar d rs w)
    (hl : ar.length ≤ 64) (hn : ty.length ≤ 1000000) {A : Option Addr} {c : Nat} {w4 : World} (hI : ∀ S : List Nat, (∀ b ∈ S, b < w.heap.size) → Ir S w4 A ar) (hb : Below w.heap.size w w4) :
    ∃ A' c' w5, (∀ t, (Builtin.append_ #[46, 46] t #[.slice A3 ty.length k3, .slice (some ⟨w4.heap.size, 0, none⟩) 1 1]).run Tryz.prog (w4.alloc (.cells #[.string nm, .slice A ar.length c, .int .i64 rs] 59)) = .ok (.slice A' (ty.length + 1) c') w5) ∧
      w5.cell? ⟨p, 5, none⟩ = some (.slice A3 ty.length k3) ∧ w5.frozen? ⟨p, 5, none⟩ = false ∧ w4.cell? ⟨p, 5, none⟩ = some (.slice A3 ty.length k3) ∧
      ∃ T', (∃ v1 m1 v2 m2 v3, TbP X (w5.setCell ⟨p, 5, none⟩ (.slice A' (ty.length + 1) c')) p T' N lv so fu (ty ++ [⟨nm, ar, rs⟩]) v1 m1 v2 m2 v3) ∧ Off T w (w5.setCell ⟨p, 5, none⟩ (.slice A' (ty.length + 1) c')) ∧ ∀ b ∈ T', b ∈ T ∨ w.heap.size ≤ b := by
  have h4 := h.off (.of_below hb [])
  obtain ⟨xs, hx, hF⟩ := h4.tb.tS
  obtain ⟨v', w5, e1, e2, e3, e4⟩ := app_fun w4 _ ty.length xs hx nm A ar.length c rs hn
  have hform : ∃ A' c', v' = .slice A' (ty.length + 1) c' := by
    rcases e2.2 with ⟨_, h⟩ | ⟨g, cap, cu, e, _⟩
    · omega
    · exact ⟨_, _, e⟩
  obtain ⟨A', c', rfl⟩ := hform
  have hTn := h4.tb.once
  rw [h4.tb.eT] at hTn
  simp only [List.nodup_cons, List.mem_append, not_or] at hTn
  have hB5 := h4.tb.bk.off e3 hTn.1.2.2
  have hsubT : ∀ b ∈ (Value.slice A3 ty.length k3).ownBlock.toList, b ∈ T := by
    intro b hb
    rw [h4.tb.eT]
    exact List.mem_cons_of_mem _ (List.mem_append_right _ (List.mem_append_right _ hb))
  have hg5 : Bk g #[.string nm, .slice B ar.length d, .int .i64 rs] 59 w5 := h4.bx.off e3 (fun hm => h4.gT (hsubT g hm))
  have hpT : p ∈ T := by rw [h4.tb.eT]; simp
  obtain ⟨T', f1, f2, f3⟩ := tb_type (f := ⟨nm, ar, rs⟩) (c := c) h4.tb hF (fun S hS => (hI (T ++ X) (fun b hb => (List.mem_append.1 hb).elim (h.tb.lt b) (fun hm => (h.tb.xs b hm).1))).more hS) hl e2 e3 e4
  exact ⟨A', c', w5, e1, hB5.cell rfl, hB5.free 5, h4.tb.bk.cell rfl, T', f1, (Off.of_below hb T).trans f2 (fun b hb => .inl hb), fun b hm => (f3 b hm).imp id (fun hle => Nat.le_trans hb.size hle)⟩
theorem fun_yes (p : Nat) (T : List Nat) (N lv : Nat) (so fu : List (ByteArray × Nat)) (ty : List Fn) (nm : ByteArray) (B : Option Addr) (ar : List Int) (d : Nat) (rs : Int) (w : World) (h : Tb X w p T N lv so fu ty) (hi : Ir T w B ar) (hf : freeB fu nm = true) (ht : typedB so.length ar rs = true) (hs : nm.size ≤ maxLen) (hN : N ≤ 1000000) (hfu : fu.length < 1000) :
    Calls Tryz.prog 23 #[.pointer (some ⟨p, 0, none⟩), .agg #[.string nm, .slice B ar.length d, .int .i64 rs]] w fun e w' => e = .returned (.int .i64 0) ∧ ∃ T', Tb X w' p T' (N + 1) lv so (fu ++ [(nm, lv)]) (ty ++ [⟨nm, ar, rs⟩]) ∧ Off T w w' ∧ ∀ b ∈ T', b ∈ T ∨ w.heap.size ≤ b := by
  obtain ⟨⟨v1, m1, v2, m2, v3, h⟩, hnames⟩ := h
  have M0 := FunMid.start (nm := nm) (d := d) (rs := rs) h hi
  obtain ⟨W0, hW0⟩ : ∃ W, W = w.alloc (.cells #[.string nm, .slice B ar.length d, .int .i64 rs] 59) := ⟨_, rfl⟩
  rw [← hW0] at M0
  obtain ⟨g, hg⟩ : ∃ g, g = w.heap.size := ⟨_, rfl⟩
  rw [← hg] at M0
  have M1 : FunMid X g p T N lv so fu ty v1 m1 v2 m2 v3 nm B ar d rs W0.drew := M0.off ((Off.refl _ _).drew)
  have hO1 : Off T w W0.drew := by rw [hW0]; exact ((Off.refl _ _).alloc _).drew
  have hal : ar.length ≤ 64 := by
    simp only [typedB, Bool.and_eq_true, decide_eq_true_eq] at ht
    exact ht.1.1
  have hfree := free_any p 3 m2 N fu nm W0.drew (M1.tb.bk.cell rfl) M1.tb.fS.map hs
  rw [hf] at hfree
  have hn1 : so.length ≤ 1000000 := Nat.le_trans h.sS.le hN
  have hform1 : ∃ A c, v1 = .slice A so.length c := by
    rcases h.sS.row.2 with ⟨e, h⟩ | ⟨g, cap, cu, e, _⟩
    · exact ⟨none, 0, by rw [e, h]⟩
    · exact ⟨_, _, e⟩
  obtain ⟨A1, k1, rfl⟩ := hform1
  have hform2 : ∃ A c, v2 = .slice A fu.length c := by
    rcases h.fS.row.2 with ⟨e, h⟩ | ⟨g, cap, cu, e, _⟩
    · exact ⟨none, 0, by rw [e, h]⟩
    · exact ⟨_, _, e⟩
  obtain ⟨A2, k2, rfl⟩ := hform2
  have hform3 : ∃ A c, v3 = .slice A ty.length c := by
    obtain ⟨xs, hx, _⟩ := h.tS
    rcases hx.2 with ⟨e, h⟩ | ⟨g, cap, cu, e, _⟩
    · exact ⟨none, 0, by rw [e, h]⟩
    · exact ⟨_, _, e⟩
  obtain ⟨A3, k3, rfl⟩ := hform3
  have hn2 : ty.length ≤ 1000000 := by
    have := congrArg List.length hnames
    simp only [List.length_map] at this
    omega
  have htyped := typed_any p so.length k1 A1 B nm ar d rs T W0.drew (M1.tb.bk.cell rfl) hn1 M1.ir (by omega)
  rw [ht] at htyped
  have x0 : W0.drew.cell? ⟨g, 0, none⟩ = some (.string nm) := M1.bx.cell rfl
  have x1 : W0.drew.cell? ⟨g, 1, none⟩ = some (.slice B ar.length d) := M1.bx.cell rfl
  have x2 : W0.drew.cell? ⟨g, 2, none⟩ = some (.int .i64 rs) := M1.bx.cell rfl
  have hfree := hide hfree
  have htyped := hide htyped
  have hnext : ∀ w2, Below W0.drew.heap.size W0.drew w2 → FunMid X g p T N lv so fu ty (.slice A1 so.length k1) m1 (.slice A2 fu.length k2) m2 (.slice A3 ty.length k3) nm B ar d rs w2 ∧ w2.cell? ⟨g, 0, none⟩ = some (.string nm) ∧ w2.cell? ⟨g, 1, none⟩ = some (.slice B ar.length d) ∧ w2.cell? ⟨g, 2, none⟩ = some (.int .i64 rs) ∧
      Calls Tryz.prog 43 #[.pointer (some ⟨p, 3, none⟩)] w2 (fun e w' => e = .returned (.int .i64 (fu.length : Int)) ∧ w2 = w') := by
    intro w2 hb2
    have M2 := M1.off (.of_below hb2 [])
    exact ⟨M2, M2.bx.cell rfl, M2.bx.cell rfl, M2.bx.cell rfl, len_any p 3 fu.length k2 A2 w2 (M2.tb.bk.cell rfl)⟩
  have hnext := hide hnext
  have hT := hide h
  have hM1 := hide M1
  have hnm : nm.size ≤ 200 ∧ hasB fu nm = false := by
    simp only [freeB, nameB, Bool.and_eq_true, decide_eq_true_eq, Bool.not_eq_true'] at hf
    exact ⟨hf.1.1.2, hf.2⟩
  have hO1 := hide hO1
  have hG := hide hg
  have hW := hide hW0
  clear M0 h hf ht hs hn1 M1 hi hg hW0
  go_enter Tryz.func23, Tryz.ntmps23
  go_wp2
  rw [← hW.out, ← hG.out]
  refine wp_region_held_drew (S := (fun W => W.cell? ⟨g, 0, none⟩ = some (.string nm) ∧ W.cell? ⟨g, 1, none⟩ = some (.slice B ar.length d) ∧ W.cell? ⟨g, 2, none⟩ = some (.int .i64 rs))) (by kernel_rfl) ?_ (fun hHeld => ?_)
  · (try dsimp only)
    exact ⟨x0, x1, x2⟩
  refine wpAnyH_take (i := 0) (v := ?vvx0) (by (simp only [List.getElem?_toArray, List.getElem?_cons_zero, List.getElem?_cons_succ]) <;> rfl) (by kernel_rfl) (by kernel_rfl) (by kernel_rfl) ?hqx0 (Or.inl ⟨by rfl, ?hyx0⟩) (by assumption) ?_
  case hqx0 => exact fun _ _ _ h => h
  case hyx0 => ((intro w hSw; (try dsimp only at hSw); go_simp) <;> (with_reducible rfl))
  (try simp only [Act.put, List.setIfInBounds_toArray, List.set_cons_zero, List.set_cons_succ])
  refine wpAnyH_take (i := 1) (v := ?vvx1) (by (simp only [List.getElem?_toArray, List.getElem?_cons_zero, List.getElem?_cons_succ]) <;> rfl) (by kernel_rfl) (by kernel_rfl) (by kernel_rfl) ?hqx1 (Or.inl ⟨by rfl, ?hyx1⟩) (by assumption) ?_
  case hqx1 => exact fun _ _ _ h => h
  case hyx1 => ((intro w hSw; (try dsimp only at hSw); go_simp) <;> (with_reducible rfl))
  (try simp only [Act.put, List.setIfInBounds_toArray, List.set_cons_zero, List.set_cons_succ])
  refine wpAnyH_take (i := 2) (v := ?vvx2) (by (simp only [List.getElem?_toArray, List.getElem?_cons_zero, List.getElem?_cons_succ]) <;> rfl) (by kernel_rfl) (by kernel_rfl) (by kernel_rfl) ?hqx2 (Or.inl ⟨by rfl, ?hyx2⟩) (by assumption) ?_
  case hqx2 => exact fun _ _ _ h => h
  case hyx2 => ((intro w hSw; (try dsimp only at hSw); go_simp) <;> (with_reducible rfl))
  (try simp only [Act.put, List.setIfInBounds_toArray, List.set_cons_zero, List.set_cons_succ])
  refine wpAnyH_take (i := 3) (v := ?vvx3) (by (simp only [List.getElem?_toArray, List.getElem?_cons_zero, List.getElem?_cons_succ]) <;> rfl) (by kernel_rfl) (by kernel_rfl) (by kernel_rfl) ?hqx3 (Or.inl ⟨by rfl, ?hyx3⟩) (by assumption) ?_
  case hqx3 => exact fun _ _ _ h => h
  case hyx3 => ((intro w hSw; (try dsimp only at hSw); go_simp) <;> (with_reducible rfl))
  (try simp only [Act.put, List.setIfInBounds_toArray, List.set_cons_zero, List.set_cons_succ])
  refine wpAnyH_take (i := 4) (v := ?vvx4) (by (simp only [List.getElem?_toArray, List.getElem?_cons_zero, List.getElem?_cons_succ]) <;> rfl) (by kernel_rfl) (by kernel_rfl) (by kernel_rfl) ?hqx4 (Or.inl ⟨by rfl, ?hyx4⟩) (by assumption) ?_
  case hqx4 => exact fun _ _ _ h => h
  case hyx4 => ((intro w hSw; (try dsimp only at hSw); go_simp) <;> (with_reducible rfl))
  (try simp only [Act.put, List.setIfInBounds_toArray, List.set_cons_zero, List.set_cons_succ])
  refine wpAnyH_take (i := 5) (v := ?vvx5) (by (simp only [List.getElem?_toArray, List.getElem?_cons_zero, List.getElem?_cons_succ]) <;> rfl) (by kernel_rfl) (by kernel_rfl) (by kernel_rfl) ?hqx5 (Or.inl ⟨by rfl, ?hyx5⟩) (by assumption) ?_
  case hqx5 => exact fun _ _ _ h => h
  case hyx5 => ((intro w hSw; (try dsimp only at hSw); go_simp) <;> (with_reducible rfl))
  (try simp only [Act.put, List.setIfInBounds_toArray, List.set_cons_zero, List.set_cons_succ])
  refine wpAnyH_take (i := 6) (v := ?vvx6) (by (simp only [List.getElem?_toArray, List.getElem?_cons_zero, List.getElem?_cons_succ]) <;> rfl) (by kernel_rfl) (by kernel_rfl) (by kernel_rfl) ?hqx6 (Or.inl ⟨by rfl, ?hyx6⟩) (by assumption) ?_
  case hqx6 => exact fun _ _ _ h => h
  case hyx6 => ((intro w hSw; (try dsimp only at hSw); go_simp) <;> (with_reducible rfl))
  (try simp only [Act.put, List.setIfInBounds_toArray, List.set_cons_zero, List.set_cons_succ])
  refine wpAnyH_take (i := 7) (v := ?vvx7) (by (simp only [List.getElem?_toArray, List.getElem?_cons_zero, List.getElem?_cons_succ]) <;> rfl) (by kernel_rfl) (by kernel_rfl) (by kernel_rfl) ?hqx7 (Or.inl ⟨by rfl, ?hyx7⟩) (by assumption) ?_
  case hqx7 => exact fun _ _ _ h => h
  case hyx7 => ((intro w hSw; (try dsimp only at hSw); go_simp) <;> (with_reducible rfl))
  (try simp only [Act.put, List.setIfInBounds_toArray, List.set_cons_zero, List.set_cons_succ])
  refine wpAnyH_ready (rs := [8]) (by kernel_rfl) (by simp) ?_
  refine AllReadyH.cons (by (simp only [List.getElem?_toArray, List.getElem?_cons_zero, List.getElem?_cons_succ]) <;> rfl) (fun K hK => ?_) AllReadyH.nil
  go_simp
  go_at_call 42; (with_reducible refine (hfree.out).mono ?_); rintro e w1 ⟨rfl, rfl⟩
  (try go_wp2_with fail)
  refine hK.out _ _ ?_ (fun hHeld => ?_)
  · (try dsimp only)
    (first | exact ⟨x0, x1, x2⟩ | exact ⟨z0, z1, z2⟩)
  (try clear hK K)
  (try simp only [Act.put, List.setIfInBounds_toArray, List.set_cons_zero, List.set_cons_succ])
  refine wpAnyH_take (i := 9) (v := ?vvx9) (by (simp only [List.getElem?_toArray, List.getElem?_cons_zero, List.getElem?_cons_succ]) <;> rfl) (by kernel_rfl) (by kernel_rfl) (by kernel_rfl) ?hqx9 (Or.inl ⟨by rfl, ?hyx9⟩) (by assumption) ?_
  case hqx9 => exact fun _ _ _ h => h
  case hyx9 => ((intro w hSw; (try dsimp only at hSw); go_simp) <;> (with_reducible rfl))
  (try simp only [Act.put, List.setIfInBounds_toArray, List.set_cons_zero, List.set_cons_succ])
  refine wpAnyH_take (i := 10) (v := ?vvx10) (by (simp only [List.getElem?_toArray, List.getElem?_cons_zero, List.getElem?_cons_succ]) <;> rfl) (by kernel_rfl) (by kernel_rfl) (by kernel_rfl) ?hqx10 (Or.inl ⟨by rfl, ?hyx10⟩) (by assumption) ?_
  case hqx10 => exact fun _ _ _ h => h
  case hyx10 => ((intro w hSw; (try dsimp only at hSw); go_simp) <;> (with_reducible rfl))
  (try simp only [Act.put, List.setIfInBounds_toArray, List.set_cons_zero, List.set_cons_succ])
  refine wpAnyH_take (i := 11) (v := ?vvx11) (by (simp only [List.getElem?_toArray, List.getElem?_cons_zero, List.getElem?_cons_succ]) <;> rfl) (by kernel_rfl) (by kernel_rfl) (by kernel_rfl) ?hqx11 (Or.inl ⟨by rfl, ?hyx11⟩) (by assumption) ?_
  case hqx11 => exact fun _ _ _ h => h
  case hyx11 => ((intro w hSw; (try dsimp only at hSw); go_simp) <;> (with_reducible rfl))
  (try simp only [Act.put, List.setIfInBounds_toArray, List.set_cons_zero, List.set_cons_succ])
  refine wpAnyH_take (i := 12) (v := ?vvx12) (by (simp only [List.getElem?_toArray, List.getElem?_cons_zero, List.getElem?_cons_succ]) <;> rfl) (by kernel_rfl) (by kernel_rfl) (by kernel_rfl) ?hqx12 (Or.inl ⟨by rfl, ?hyx12⟩) (by assumption) ?_
  case hqx12 => exact fun _ _ _ h => h
  case hyx12 => ((intro w hSw; (try dsimp only at hSw); go_simp) <;> (with_reducible rfl))
  (try simp only [Act.put, List.setIfInBounds_toArray, List.set_cons_zero, List.set_cons_succ])
  refine wpAnyH_take (i := 13) (v := ?vvx13) (by (simp only [List.getElem?_toArray, List.getElem?_cons_zero, List.getElem?_cons_succ]) <;> rfl) (by kernel_rfl) (by kernel_rfl) (by kernel_rfl) ?hqx13 (Or.inl ⟨by rfl, ?hyx13⟩) (by assumption) ?_
  case hqx13 => exact fun _ _ _ h => h
  case hyx13 => ((intro w hSw; (try dsimp only at hSw); go_simp) <;> (with_reducible rfl))
  (try simp only [Act.put, List.setIfInBounds_toArray, List.set_cons_zero, List.set_cons_succ])
  refine wpAnyH_ready (rs := [14]) (by kernel_rfl) (by simp) ?_
  refine AllReadyH.cons (by (simp only [List.getElem?_toArray, List.getElem?_cons_zero, List.getElem?_cons_succ]) <;> rfl) (fun K hK => ?_) AllReadyH.nil
  go_simp
  go_at_call 47; (with_reducible refine (htyped.out).mono ?_); rintro e w2 ⟨rfl, hb2⟩; obtain ⟨M2, z0, z1, z2, hlen2⟩ := hnext.out _ hb2
  (try go_wp2_with fail)
  refine hK.out _ _ ?_ (fun hHeld => ?_)
  · (try dsimp only)
    (first | exact ⟨x0, x1, x2⟩ | exact ⟨z0, z1, z2⟩)
  (try clear hK K)
  (try simp only [Act.put, List.setIfInBounds_toArray, List.set_cons_zero, List.set_cons_succ])
  refine wpAnyH_take (i := 15) (v := ?vvx15) (by (simp only [List.getElem?_toArray, List.getElem?_cons_zero, List.getElem?_cons_succ]) <;> rfl) (by kernel_rfl) (by kernel_rfl) (by kernel_rfl) ?hqx15 (Or.inl ⟨by rfl, ?hyx15⟩) (by assumption) ?_
  case hqx15 => exact fun _ _ _ h => h
  case hyx15 => ((intro w hSw; (try dsimp only at hSw); go_simp) <;> (with_reducible rfl))
  (try simp only [Act.put, List.setIfInBounds_toArray, List.set_cons_zero, List.set_cons_succ])
  refine wpAnyH_take (i := 16) (v := ?vvx16) (by (simp only [List.getElem?_toArray, List.getElem?_cons_zero, List.getElem?_cons_succ]) <;> rfl) (by kernel_rfl) (by kernel_rfl) (by kernel_rfl) ?hqx16 (Or.inl ⟨by rfl, ?hyx16⟩) (by assumption) ?_
  case hqx16 => exact fun _ _ _ h => h
  case hyx16 => ((intro w hSw; (try dsimp only at hSw); go_simp) <;> (with_reducible rfl))
  (try simp only [Act.put, List.setIfInBounds_toArray, List.set_cons_zero, List.set_cons_succ])
  refine wpAnyH_take (i := 17) (v := ?vvx17) (by (simp only [List.getElem?_toArray, List.getElem?_cons_zero, List.getElem?_cons_succ]) <;> rfl) (by kernel_rfl) (by kernel_rfl) (by kernel_rfl) ?hqx17 (Or.inl ⟨by rfl, ?hyx17⟩) (by assumption) ?_
  case hqx17 => exact fun _ _ _ h => h
  case hyx17 => ((intro w hSw; (try dsimp only at hSw); go_simp) <;> (with_reducible rfl))
  (try simp only [Act.put, List.setIfInBounds_toArray, List.set_cons_zero, List.set_cons_succ])
  refine wpAnyH_done (by kernel_rfl) ?_ _
  clear hHeld
  go_wp2_with (go_at_call 43; (with_reducible refine (hlen2).mono ?_); rintro e w1 ⟨rfl, rfl⟩)
  have M2d := M2.off ((Off.refl [] w2).drew)
  have y0 : w2.drew.cell? ⟨p, 0, none⟩ = some (.int .i64 (lv : Int)) := M2d.tb.bk.cell rfl
  have hpn : p ∉ bks (.slice A2 fu.length k2) m2 := by
    have := M2d.tb.once
    rw [M2d.tb.eT] at this
    simp only [List.nodup_cons, List.mem_append, not_or] at this
    exact this.1.2.1
  have hpush := push_any p 3 92 _ (.slice A2 fu.length k2) m2 N fu nm lv w2.drew M2d.tb.bk rfl rfl M2d.tb.fS hpn hnm.2 hnm.1 hN
  have hcell : ∀ w3, Pushed p 3 92 #[.int .i64 (lv : Int), .slice A1 so.length k1, .map m1, .slice A2 fu.length k2, .map m2, .slice A3 ty.length k3] (.slice A2 fu.length k2) m2 (N + 1) (fu ++ [(nm, lv)]) w2.drew w3 →
      w3.cell? ⟨g, 0, none⟩ = some (.string nm) ∧ w3.cell? ⟨p, 0, none⟩ = some (.int .i64 (lv : Int)) ∧ w3.frozen? ⟨g, 0, none⟩ = false ∧ w3.setCell ⟨g, 0, none⟩ (.string nm) = w3 ∧ ∃ T3 v2' m2', FunMid X g p T3 (N + 1) lv so (fu ++ [(nm, lv)]) ty (.slice A1 so.length k1) m1 v2' m2' (.slice A3 ty.length k3) nm B ar d rs w3 ∧ Off T w2.drew w3 ∧ ∀ b ∈ T3, b ∈ T ∨ w2.drew.heap.size ≤ b := by
    intro w3 hpu
    obtain ⟨T3, v2', m2', M3, h1, h2⟩ := M2d.push hpu
    exact ⟨M3.bx.cell rfl, M3.tb.bk.cell rfl, M3.bx.free 0, setCell_same M3.bx rfl, T3, v2', m2', M3, h1, h2⟩
  refine wp_region_held_drew (S := (fun W => W.cell? ⟨g, 0, none⟩ = some (.string nm) ∧ W.cell? ⟨p, 0, none⟩ = some (.int .i64 (lv : Int)))) (by kernel_rfl) ?_ (fun hHeld => ?_)
  · (try dsimp only)
    exact ⟨z0, y0⟩
  refine wpAnyH_take (i := 0) (v := ?vvy0) (by (simp only [List.getElem?_toArray, List.getElem?_cons_zero, List.getElem?_cons_succ]) <;> rfl) (by kernel_rfl) (by kernel_rfl) (by kernel_rfl) ?hqy0 (Or.inl ⟨by rfl, ?hyy0⟩) (by assumption) ?_
  case hqy0 => exact fun _ _ _ h => h
  case hyy0 => ((intro w hSw; (try dsimp only at hSw); go_simp) <;> (with_reducible rfl))
  (try simp only [Act.put, List.setIfInBounds_toArray, List.set_cons_zero, List.set_cons_succ])
  refine wpAnyH_take (i := 1) (v := ?vvy1) (by (simp only [List.getElem?_toArray, List.getElem?_cons_zero, List.getElem?_cons_succ]) <;> rfl) (by kernel_rfl) (by kernel_rfl) (by kernel_rfl) ?hqy1 (Or.inl ⟨by rfl, ?hyy1⟩) (by assumption) ?_
  case hqy1 => exact fun _ _ _ h => h
  case hyy1 => ((intro w hSw; (try dsimp only at hSw); go_simp) <;> (with_reducible rfl))
  (try simp only [Act.put, List.setIfInBounds_toArray, List.set_cons_zero, List.set_cons_succ])
  refine wpAnyH_take (i := 2) (v := ?vvy2) (by (simp only [List.getElem?_toArray, List.getElem?_cons_zero, List.getElem?_cons_succ]) <;> rfl) (by kernel_rfl) (by kernel_rfl) (by kernel_rfl) ?hqy2 (Or.inl ⟨by rfl, ?hyy2⟩) (by assumption) ?_
  case hqy2 => exact fun _ _ _ h => h
  case hyy2 => ((intro w hSw; (try dsimp only at hSw); go_simp) <;> (with_reducible rfl))
  (try simp only [Act.put, List.setIfInBounds_toArray, List.set_cons_zero, List.set_cons_succ])
  refine wpAnyH_take (i := 3) (v := ?vvy3) (by (simp only [List.getElem?_toArray, List.getElem?_cons_zero, List.getElem?_cons_succ]) <;> rfl) (by kernel_rfl) (by kernel_rfl) (by kernel_rfl) ?hqy3 (Or.inl ⟨by rfl, ?hyy3⟩) (by assumption) ?_
  case hqy3 => exact fun _ _ _ h => h
  case hyy3 => ((intro w hSw; (try dsimp only at hSw); go_simp) <;> (with_reducible rfl))
  (try simp only [Act.put, List.setIfInBounds_toArray, List.set_cons_zero, List.set_cons_succ])
  refine wpAnyH_take (i := 4) (v := ?vvy4) (by (simp only [List.getElem?_toArray, List.getElem?_cons_zero, List.getElem?_cons_succ]) <;> rfl) (by kernel_rfl) (by kernel_rfl) (by kernel_rfl) ?hqy4 (Or.inl ⟨by rfl, ?hyy4⟩) (by assumption) ?_
  case hqy4 => exact fun _ _ _ h => h
  case hyy4 => ((intro w hSw; (try dsimp only at hSw); go_simp) <;> (with_reducible rfl))
  (try simp only [Act.put, List.setIfInBounds_toArray, List.set_cons_zero, List.set_cons_succ])
  refine wpAnyH_take (i := 5) (v := ?vvy5) (by (simp only [List.getElem?_toArray, List.getElem?_cons_zero, List.getElem?_cons_succ]) <;> rfl) (by kernel_rfl) (by kernel_rfl) (by kernel_rfl) ?hqy5 (Or.inl ⟨by rfl, ?hyy5⟩) (by assumption) ?_
  case hqy5 => exact fun _ _ _ h => h
  case hyy5 => ((intro w hSw; (try dsimp only at hSw); go_simp) <;> (with_reducible rfl))
  (try simp only [Act.put, List.setIfInBounds_toArray, List.set_cons_zero, List.set_cons_succ])
  refine wpAnyH_take (i := 6) (v := ?vvy6) (by (simp only [List.getElem?_toArray, List.getElem?_cons_zero, List.getElem?_cons_succ]) <;> rfl) (by kernel_rfl) (by kernel_rfl) (by kernel_rfl) ?hqy6 (Or.inl ⟨by rfl, ?hyy6⟩) (by assumption) ?_
  case hqy6 => exact fun _ _ _ h => h
  case hyy6 => ((intro w hSw; (try dsimp only at hSw); go_simp) <;> (with_reducible rfl))
  (try simp only [Act.put, List.setIfInBounds_toArray, List.set_cons_zero, List.set_cons_succ])
  refine wpAnyH_take (i := 7) (v := ?vvy7) (by (simp only [List.getElem?_toArray, List.getElem?_cons_zero, List.getElem?_cons_succ]) <;> rfl) (by kernel_rfl) (by kernel_rfl) (by kernel_rfl) ?hqy7 (Or.inl ⟨by rfl, ?hyy7⟩) (by assumption) ?_
  case hqy7 => exact fun _ _ _ h => h
  case hyy7 => ((intro w hSw; (try dsimp only at hSw); go_simp) <;> (with_reducible rfl))
  (try simp only [Act.put, List.setIfInBounds_toArray, List.set_cons_zero, List.set_cons_succ])
  refine wpAnyH_take (i := 8) (v := ?vvy8) (by (simp only [List.getElem?_toArray, List.getElem?_cons_zero, List.getElem?_cons_succ]) <;> rfl) (by kernel_rfl) (by kernel_rfl) (by kernel_rfl) ?hqy8 (Or.inl ⟨by rfl, ?hyy8⟩) (by assumption) ?_
  case hqy8 => exact fun _ _ _ h => h
  case hyy8 => ((intro w hSw; (try dsimp only at hSw); go_simp) <;> (with_reducible rfl))
  (try simp only [Act.put, List.setIfInBounds_toArray, List.set_cons_zero, List.set_cons_succ])
  refine wpAnyH_ready (rs := [9]) (by kernel_rfl) (by simp) ?_
  refine AllReadyH.cons (by (simp only [List.getElem?_toArray, List.getElem?_cons_zero, List.getElem?_cons_succ]) <;> rfl) (fun K hK => ?_) AllReadyH.nil
  go_simp
  go_at_call 44; (with_reducible refine (hpush).mono ?_); rintro e w3 ⟨rfl, hpu⟩; obtain ⟨c0, c5, c1, c3, T3, v23, m23, M3, hO3, hs3⟩ := hcell _ hpu
  (try go_wp2_with fail)
  refine hK.out _ _ ?_ (fun hHeld => ?_)
  · (try dsimp only)
    first | exact ⟨c0, c5⟩ | (rw [c3]; exact ⟨c0, c5⟩)
  (try clear hK K)
  (try simp only [Act.put, List.setIfInBounds_toArray, List.set_cons_zero, List.set_cons_succ])
  refine wpAnyH_take (i := 10) (v := ?vvy10) (by (simp only [List.getElem?_toArray, List.getElem?_cons_zero, List.getElem?_cons_succ]) <;> rfl) (by kernel_rfl) (by kernel_rfl) (by kernel_rfl) ?hqy10 (Or.inl ⟨by rfl, ?hyy10⟩) (by assumption) ?_
  case hqy10 => exact fun _ _ _ h => h
  case hyy10 => ((intro w hSw; (try dsimp only at hSw); go_simp) <;> (with_reducible rfl))
  (try simp only [Act.put, List.setIfInBounds_toArray, List.set_cons_zero, List.set_cons_succ])
  refine wpAnyH_ready (rs := [11]) (by kernel_rfl) (by simp) ?_
  refine AllReadyH.cons (by (simp only [List.getElem?_toArray, List.getElem?_cons_zero, List.getElem?_cons_succ]) <;> rfl) (fun K hK => ?_) AllReadyH.nil
  go_simp
  refine hK.out _ _ ?_ (fun hHeld => ?_)
  · (try dsimp only)
    first | exact ⟨c0, c5⟩ | (rw [c3]; exact ⟨c0, c5⟩)
  (try clear hK K)
  (try simp only [Act.put, List.setIfInBounds_toArray, List.set_cons_zero, List.set_cons_succ])
  refine wpAnyH_done (by kernel_rfl) ?_ _
  clear hHeld
  go_wp2
  have M3d := M3.off ((Off.refl [] w3).drew)
  have hown := own_any nm B ar d rs T3 w3.drew M3d.ir (by omega)
  have u0 : w3.drew.cell? ⟨g, 0, none⟩ = some (.string nm) := M3d.bx.cell rfl
  have u1 : w3.drew.cell? ⟨g, 1, none⟩ = some (.slice B ar.length d) := M3d.bx.cell rfl
  have u2 : w3.drew.cell? ⟨g, 2, none⟩ = some (.int .i64 rs) := M3d.bx.cell rfl
  have y5 : w3.drew.cell? ⟨p, 5, none⟩ = some (.slice A3 ty.length k3) := M3d.tb.bk.cell rfl
  have hend : ∀ (A' : Option Addr) (c' : Nat) (w5 : World), Off T w2.drew w3 → (∀ b ∈ T3, b ∈ T ∨ w2.drew.heap.size ≤ b) →
      (∃ T', (∃ v1 m1 v2 m2 v3, TbP X (w5.setCell ⟨p, 5, none⟩ (.slice A' (ty.length + 1) c')) p T' (N + 1) lv so (fu ++ [(nm, lv)]) (ty ++ [⟨nm, ar, rs⟩]) v1 m1 v2 m2 v3) ∧ Off T3 w3.drew (w5.setCell ⟨p, 5, none⟩ (.slice A' (ty.length + 1) c')) ∧ ∀ b ∈ T', b ∈ T3 ∨ w3.drew.heap.size ≤ b) →
      ∃ T', Tb X (w5.setCell ⟨p, 5, none⟩ (.slice A' (ty.length + 1) c')) p T' (N + 1) lv so (fu ++ [(nm, lv)]) (ty ++ [⟨nm, ar, rs⟩]) ∧ Off T w (w5.setCell ⟨p, 5, none⟩ (.slice A' (ty.length + 1) c')) ∧ ∀ b ∈ T', b ∈ T ∨ w.heap.size ≤ b := by
    rintro A' c' w5 h1 h2 ⟨T', h3, h4, h5⟩
    have hw2 : Off T w w2.drew := (hO1.out.trans (T' := T) (Off.of_below hb2 T) (fun b hb => .inl hb)).drew
    have hw3 : Off T w w3.drew := (hw2.trans h1 (fun b hb => .inl hb)).drew
    have hT3 : ∀ b ∈ T3, b ∈ T ∨ w.heap.size ≤ b := fun b hb => (h2 b hb).imp id (fun hle => Nat.le_trans hw2.size hle)
    exact ⟨T', ⟨h3, by simp [hnames]⟩, hw3.trans h4 hT3, fun b hb => (h5 b hb).elim (hT3 b) (fun hle => .inr (Nat.le_trans hw3.size hle))⟩
  have hend := hide hend
  refine wp_region_held_drew (S := fun _ => True) (by kernel_rfl) trivial (fun hHeld => ?_)
  refine wpAnyH_take (i := 0) (v := ?vvm1) (by (simp only [List.getElem?_toArray, List.getElem?_cons_zero, List.getElem?_cons_succ]) <;> rfl) (by kernel_rfl) (by kernel_rfl) (by kernel_rfl) ?hqm1 (Or.inl ⟨by rfl, ?hym1⟩) (by assumption) ?_
  case hqm1 => exact fun _ _ _ h => h
  case hym1 => ((intro w hSw; (try dsimp only at hSw); go_simp) <;> (with_reducible rfl))
  (try simp only [Act.put, List.setIfInBounds_toArray, List.set_cons_zero, List.set_cons_succ])
  refine wpAnyH_take (i := 1) (v := ?vvm2) (by (simp only [List.getElem?_toArray, List.getElem?_cons_zero, List.getElem?_cons_succ]) <;> rfl) (by kernel_rfl) (by kernel_rfl) (by kernel_rfl) ?hqm2 (Or.inl ⟨by rfl, ?hym2⟩) (by assumption) ?_
  case hqm2 => exact fun _ _ _ h => h
  case hym2 => ((intro w hSw; (try dsimp only at hSw); go_simp) <;> (with_reducible rfl))
  (try simp only [Act.put, List.setIfInBounds_toArray, List.set_cons_zero, List.set_cons_succ])
  refine wpAnyH_take (i := 2) (v := ?vvm3) (by (simp only [List.getElem?_toArray, List.getElem?_cons_zero, List.getElem?_cons_succ]) <;> rfl) (by kernel_rfl) (by kernel_rfl) (by kernel_rfl) ?hqm3 (Or.inl ⟨by rfl, ?hym3⟩) (by assumption) ?_
  case hqm3 => exact fun _ _ _ h => h
  case hym3 => ((intro w hSw; (try dsimp only at hSw); go_simp) <;> (with_reducible rfl))
  (try simp only [Act.put, List.setIfInBounds_toArray, List.set_cons_zero, List.set_cons_succ])
  refine wpAnyH_take (i := 3) (v := ?vvm4) (by (simp only [List.getElem?_toArray, List.getElem?_cons_zero, List.getElem?_cons_succ]) <;> rfl) (by kernel_rfl) (by kernel_rfl) (by kernel_rfl) ?hqm4 (Or.inl ⟨by rfl, ?hym4⟩) (by assumption) ?_
  case hqm4 => exact fun _ _ _ h => h
  case hym4 => ((intro w hSw; (try dsimp only at hSw); go_simp) <;> (with_reducible rfl))
  (try simp only [Act.put, List.setIfInBounds_toArray, List.set_cons_zero, List.set_cons_succ])
  refine wpAnyH_ready (rs := [4, 5]) (by kernel_rfl) (by simp) ?_
  refine (AllReadyH.cons (by (simp only [List.getElem?_toArray, List.getElem?_cons_zero, List.getElem?_cons_succ]) <;> rfl) (fun K hK => ?_) (AllReadyH.cons (by (simp only [List.getElem?_toArray, List.getElem?_cons_zero, List.getElem?_cons_succ]) <;> rfl) (fun K hK => ?_) AllReadyH.nil))
  · go_simp
    refine hK.out _ _ trivial (fun hHeld => ?_)
    (try clear hK K)
    (try simp only [Act.put, List.setIfInBounds_toArray, List.set_cons_zero, List.set_cons_succ])
    refine wpAnyH_ready (rs := [5]) (by kernel_rfl) (by simp) ?_
    refine (AllReadyH.cons (by (simp only [List.getElem?_toArray, List.getElem?_cons_zero, List.getElem?_cons_succ]) <;> rfl) (fun K hK => ?_) AllReadyH.nil)
    go_simp
    refine hK.out _ _ trivial (fun hHeld => ?_)
    (try clear hK K)
    (try simp only [Act.put, List.setIfInBounds_toArray, List.set_cons_zero, List.set_cons_succ])
    refine wpAnyH_ready (rs := [6]) (by kernel_rfl) (by simp) ?_
    refine (AllReadyH.cons (by (simp only [List.getElem?_toArray, List.getElem?_cons_zero, List.getElem?_cons_succ]) <;> rfl) (fun K hK => ?_) AllReadyH.nil)
    go_simp
    go_at_call 48; (with_reducible refine (hown).mono ?_); rintro e w4 ⟨A, c, rfl, hI, hb4⟩; obtain ⟨A', c', w5, happ, p0, p1, p2, hfin⟩ := M3d.fin (c := c) hal hn2 hI hb4; have p3 := fun x => cell_al p2 x
    (try go_wp2_with fail)
    refine hK.out _ _ trivial (fun hHeld => ?_)
    (try clear hK K)
    (try simp only [Act.put, List.setIfInBounds_toArray, List.set_cons_zero, List.set_cons_succ])
    refine wpAnyH_ready (rs := [7]) (by kernel_rfl) (by simp) ?_
    refine (AllReadyH.cons (by (simp only [List.getElem?_toArray, List.getElem?_cons_zero, List.getElem?_cons_succ]) <;> rfl) (fun K hK => ?_) AllReadyH.nil)
    go_simp
    refine hK.out _ _ trivial (fun hHeld => ?_)
    (try clear hK K)
    (try simp only [Act.put, List.setIfInBounds_toArray, List.set_cons_zero, List.set_cons_succ])
    refine wpAnyH_ready (rs := [8]) (by kernel_rfl) (by simp) ?_
    refine (AllReadyH.cons (by (simp only [List.getElem?_toArray, List.getElem?_cons_zero, List.getElem?_cons_succ]) <;> rfl) (fun K hK => ?_) AllReadyH.nil)
    refine wp_append_run _ _ _ _ rfl _ _ _ _ rfl rfl happ ?_
    (try go_wp2_with fail)
    refine hK.out _ _ trivial (fun hHeld => ?_)
    (try clear hK K)
    (try simp only [Act.put, List.setIfInBounds_toArray, List.set_cons_zero, List.set_cons_succ])
    refine wpAnyH_take (i := 9) (v := ?vvm5) (by (simp only [List.getElem?_toArray, List.getElem?_cons_zero, List.getElem?_cons_succ]) <;> rfl) (by kernel_rfl) (by kernel_rfl) (by kernel_rfl) ?hqm5 (Or.inl ⟨by rfl, ?hym5⟩) (by assumption) ?_
    case hqm5 => exact fun _ _ _ h => h
    case hym5 => ((intro w hSw; (try dsimp only at hSw); go_simp) <;> (with_reducible rfl))
    (try simp only [Act.put, List.setIfInBounds_toArray, List.set_cons_zero, List.set_cons_succ])
    refine wpAnyH_take (i := 10) (v := ?vvm6) (by (simp only [List.getElem?_toArray, List.getElem?_cons_zero, List.getElem?_cons_succ]) <;> rfl) (by kernel_rfl) (by kernel_rfl) (by kernel_rfl) ?hqm6 (Or.inl ⟨by rfl, ?hym6⟩) (by assumption) ?_
    case hqm6 => exact fun _ _ _ h => h
    case hym6 => ((intro w hSw; (try dsimp only at hSw); go_simp) <;> (with_reducible rfl))
    (try simp only [Act.put, List.setIfInBounds_toArray, List.set_cons_zero, List.set_cons_succ])
    refine wpAnyH_ready (rs := [11]) (by kernel_rfl) (by simp) ?_
    refine (AllReadyH.cons (by (simp only [List.getElem?_toArray, List.getElem?_cons_zero, List.getElem?_cons_succ]) <;> rfl) (fun K hK => ?_) AllReadyH.nil)
    go_simp
    refine hK.out _ _ trivial (fun hHeld => ?_)
    (try clear hK K)
    (try simp only [Act.put, List.setIfInBounds_toArray, List.set_cons_zero, List.set_cons_succ])
    refine wpAnyH_done (by kernel_rfl) ?_ _
    clear hHeld
    go_wp2
    go_ret
    exact ⟨rfl, hend.out _ _ _ hO3 hs3 hfin⟩
  · go_simp
    refine hK.out _ _ trivial (fun hHeld => ?_)
    (try clear hK K)
    (try simp only [Act.put, List.setIfInBounds_toArray, List.set_cons_zero, List.set_cons_succ])
    refine wpAnyH_ready (rs := [4, 6]) (by kernel_rfl) (by simp) ?_
    refine (AllReadyH.cons (by (simp only [List.getElem?_toArray, List.getElem?_cons_zero, List.getElem?_cons_succ]) <;> rfl) (fun K hK => ?_) (AllReadyH.cons (by (simp only [List.getElem?_toArray, List.getElem?_cons_zero, List.getElem?_cons_succ]) <;> rfl) (fun K hK => ?_) AllReadyH.nil))
    · go_simp
      refine hK.out _ _ trivial (fun hHeld => ?_)
      (try clear hK K)
      (try simp only [Act.put, List.setIfInBounds_toArray, List.set_cons_zero, List.set_cons_succ])
      refine wpAnyH_ready (rs := [6]) (by kernel_rfl) (by simp) ?_
      refine (AllReadyH.cons (by (simp only [List.getElem?_toArray, List.getElem?_cons_zero, List.getElem?_cons_succ]) <;> rfl) (fun K hK => ?_) AllReadyH.nil)
      go_simp
      go_at_call 48; (with_reducible refine (hown).mono ?_); rintro e w4 ⟨A, c, rfl, hI, hb4⟩; obtain ⟨A', c', w5, happ, p0, p1, p2, hfin⟩ := M3d.fin (c := c) hal hn2 hI hb4; have p3 := fun x => cell_al p2 x
      (try go_wp2_with fail)
      refine hK.out _ _ trivial (fun hHeld => ?_)
      (try clear hK K)
      (try simp only [Act.put, List.setIfInBounds_toArray, List.set_cons_zero, List.set_cons_succ])
      refine wpAnyH_ready (rs := [7]) (by kernel_rfl) (by simp) ?_
      refine (AllReadyH.cons (by (simp only [List.getElem?_toArray, List.getElem?_cons_zero, List.getElem?_cons_succ]) <;> rfl) (fun K hK => ?_) AllReadyH.nil)
      go_simp
      refine hK.out _ _ trivial (fun hHeld => ?_)
      (try clear hK K)
      (try simp only [Act.put, List.setIfInBounds_toArray, List.set_cons_zero, List.set_cons_succ])
      refine wpAnyH_ready (rs := [8]) (by kernel_rfl) (by simp) ?_
      refine (AllReadyH.cons (by (simp only [List.getElem?_toArray, List.getElem?_cons_zero, List.getElem?_cons_succ]) <;> rfl) (fun K hK => ?_) AllReadyH.nil)
      refine wp_append_run _ _ _ _ rfl _ _ _ _ rfl rfl happ ?_
      (try go_wp2_with fail)
      refine hK.out _ _ trivial (fun hHeld => ?_)
      (try clear hK K)
      (try simp only [Act.put, List.setIfInBounds_toArray, List.set_cons_zero, List.set_cons_succ])
      refine wpAnyH_take (i := 9) (v := ?vvm7) (by (simp only [List.getElem?_toArray, List.getElem?_cons_zero, List.getElem?_cons_succ]) <;> rfl) (by kernel_rfl) (by kernel_rfl) (by kernel_rfl) ?hqm7 (Or.inl ⟨by rfl, ?hym7⟩) (by assumption) ?_
      case hqm7 => exact fun _ _ _ h => h
      case hym7 => ((intro w hSw; (try dsimp only at hSw); go_simp) <;> (with_reducible rfl))
      (try simp only [Act.put, List.setIfInBounds_toArray, List.set_cons_zero, List.set_cons_succ])
      refine wpAnyH_take (i := 10) (v := ?vvm8) (by (simp only [List.getElem?_toArray, List.getElem?_cons_zero, List.getElem?_cons_succ]) <;> rfl) (by kernel_rfl) (by kernel_rfl) (by kernel_rfl) ?hqm8 (Or.inl ⟨by rfl, ?hym8⟩) (by assumption) ?_
      case hqm8 => exact fun _ _ _ h => h
      case hym8 => ((intro w hSw; (try dsimp only at hSw); go_simp) <;> (with_reducible rfl))
      (try simp only [Act.put, List.setIfInBounds_toArray, List.set_cons_zero, List.set_cons_succ])
      refine wpAnyH_ready (rs := [11]) (by kernel_rfl) (by simp) ?_
      refine (AllReadyH.cons (by (simp only [List.getElem?_toArray, List.getElem?_cons_zero, List.getElem?_cons_succ]) <;> rfl) (fun K hK => ?_) AllReadyH.nil)
      go_simp
      refine hK.out _ _ trivial (fun hHeld => ?_)
      (try clear hK K)
      (try simp only [Act.put, List.setIfInBounds_toArray, List.set_cons_zero, List.set_cons_succ])
      refine wpAnyH_done (by kernel_rfl) ?_ _
      clear hHeld
      go_wp2
      go_ret
      exact ⟨rfl, hend.out _ _ _ hO3 hs3 hfin⟩
    · go_simp
      go_at_call 48; (with_reducible refine (hown).mono ?_); rintro e w4 ⟨A, c, rfl, hI, hb4⟩; obtain ⟨A', c', w5, happ, p0, p1, p2, hfin⟩ := M3d.fin (c := c) hal hn2 hI hb4; have p3 := fun x => cell_al p2 x
      (try go_wp2_with fail)
      refine hK.out _ _ trivial (fun hHeld => ?_)
      (try clear hK K)
      (try simp only [Act.put, List.setIfInBounds_toArray, List.set_cons_zero, List.set_cons_succ])
      refine wpAnyH_ready (rs := [4, 7]) (by kernel_rfl) (by simp) ?_
      refine (AllReadyH.cons (by (simp only [List.getElem?_toArray, List.getElem?_cons_zero, List.getElem?_cons_succ]) <;> rfl) (fun K hK => ?_) (AllReadyH.cons (by (simp only [List.getElem?_toArray, List.getElem?_cons_zero, List.getElem?_cons_succ]) <;> rfl) (fun K hK => ?_) AllReadyH.nil))
      · go_simp
        refine hK.out _ _ trivial (fun hHeld => ?_)
        (try clear hK K)
        (try simp only [Act.put, List.setIfInBounds_toArray, List.set_cons_zero, List.set_cons_succ])
        refine wpAnyH_ready (rs := [7]) (by kernel_rfl) (by simp) ?_
        refine (AllReadyH.cons (by (simp only [List.getElem?_toArray, List.getElem?_cons_zero, List.getElem?_cons_succ]) <;> rfl) (fun K hK => ?_) AllReadyH.nil)
        go_simp
        refine hK.out _ _ trivial (fun hHeld => ?_)
        (try clear hK K)
        (try simp only [Act.put, List.setIfInBounds_toArray, List.set_cons_zero, List.set_cons_succ])
        refine wpAnyH_ready (rs := [8]) (by kernel_rfl) (by simp) ?_
        refine (AllReadyH.cons (by (simp only [List.getElem?_toArray, List.getElem?_cons_zero, List.getElem?_cons_succ]) <;> rfl) (fun K hK => ?_) AllReadyH.nil)
        refine wp_append_run _ _ _ _ rfl _ _ _ _ rfl rfl happ ?_
        (try go_wp2_with fail)
        refine hK.out _ _ trivial (fun hHeld => ?_)
        (try clear hK K)
        (try simp only [Act.put, List.setIfInBounds_toArray, List.set_cons_zero, List.set_cons_succ])
        refine wpAnyH_take (i := 9) (v := ?vvm9) (by (simp only [List.getElem?_toArray, List.getElem?_cons_zero, List.getElem?_cons_succ]) <;> rfl) (by kernel_rfl) (by kernel_rfl) (by kernel_rfl) ?hqm9 (Or.inl ⟨by rfl, ?hym9⟩) (by assumption) ?_
        case hqm9 => exact fun _ _ _ h => h
        case hym9 => ((intro w hSw; (try dsimp only at hSw); go_simp) <;> (with_reducible rfl))
        (try simp only [Act.put, List.setIfInBounds_toArray, List.set_cons_zero, List.set_cons_succ])
        refine wpAnyH_take (i := 10) (v := ?vvm10) (by (simp only [List.getElem?_toArray, List.getElem?_cons_zero, List.getElem?_cons_succ]) <;> rfl) (by kernel_rfl) (by kernel_rfl) (by kernel_rfl) ?hqm10 (Or.inl ⟨by rfl, ?hym10⟩) (by assumption) ?_
        case hqm10 => exact fun _ _ _ h => h
        case hym10 => ((intro w hSw; (try dsimp only at hSw); go_simp) <;> (with_reducible rfl))
        (try simp only [Act.put, List.setIfInBounds_toArray, List.set_cons_zero, List.set_cons_succ])
        refine wpAnyH_ready (rs := [11]) (by kernel_rfl) (by simp) ?_
        refine (AllReadyH.cons (by (simp only [List.getElem?_toArray, List.getElem?_cons_zero, List.getElem?_cons_succ]) <;> rfl) (fun K hK => ?_) AllReadyH.nil)
        go_simp
        refine hK.out _ _ trivial (fun hHeld => ?_)
        (try clear hK K)
        (try simp only [Act.put, List.setIfInBounds_toArray, List.set_cons_zero, List.set_cons_succ])
        refine wpAnyH_done (by kernel_rfl) ?_ _
        clear hHeld
        go_wp2
        go_ret
        exact ⟨rfl, hend.out _ _ _ hO3 hs3 hfin⟩
      · go_simp
        refine hK.out _ _ trivial (fun hHeld => ?_)
        (try clear hK K)
        (try simp only [Act.put, List.setIfInBounds_toArray, List.set_cons_zero, List.set_cons_succ])
        refine wpAnyH_ready (rs := [4]) (by kernel_rfl) (by simp) ?_
        refine (AllReadyH.cons (by (simp only [List.getElem?_toArray, List.getElem?_cons_zero, List.getElem?_cons_succ]) <;> rfl) (fun K hK => ?_) AllReadyH.nil)
        go_simp
        refine hK.out _ _ trivial (fun hHeld => ?_)
        (try clear hK K)
        (try simp only [Act.put, List.setIfInBounds_toArray, List.set_cons_zero, List.set_cons_succ])
        refine wpAnyH_ready (rs := [8]) (by kernel_rfl) (by simp) ?_
        refine (AllReadyH.cons (by (simp only [List.getElem?_toArray, List.getElem?_cons_zero, List.getElem?_cons_succ]) <;> rfl) (fun K hK => ?_) AllReadyH.nil)
        refine wp_append_run _ _ _ _ rfl _ _ _ _ rfl rfl happ ?_
        (try go_wp2_with fail)
        refine hK.out _ _ trivial (fun hHeld => ?_)
        (try clear hK K)
        (try simp only [Act.put, List.setIfInBounds_toArray, List.set_cons_zero, List.set_cons_succ])
        refine wpAnyH_take (i := 9) (v := ?vvm11) (by (simp only [List.getElem?_toArray, List.getElem?_cons_zero, List.getElem?_cons_succ]) <;> rfl) (by kernel_rfl) (by kernel_rfl) (by kernel_rfl) ?hqm11 (Or.inl ⟨by rfl, ?hym11⟩) (by assumption) ?_
        case hqm11 => exact fun _ _ _ h => h
        case hym11 => ((intro w hSw; (try dsimp only at hSw); go_simp) <;> (with_reducible rfl))
        (try simp only [Act.put, List.setIfInBounds_toArray, List.set_cons_zero, List.set_cons_succ])
        refine wpAnyH_take (i := 10) (v := ?vvm12) (by (simp only [List.getElem?_toArray, List.getElem?_cons_zero, List.getElem?_cons_succ]) <;> rfl) (by kernel_rfl) (by kernel_rfl) (by kernel_rfl) ?hqm12 (Or.inl ⟨by rfl, ?hym12⟩) (by assumption) ?_
        case hqm12 => exact fun _ _ _ h => h
        case hym12 => ((intro w hSw; (try dsimp only at hSw); go_simp) <;> (with_reducible rfl))
        (try simp only [Act.put, List.setIfInBounds_toArray, List.set_cons_zero, List.set_cons_succ])
        refine wpAnyH_ready (rs := [11]) (by kernel_rfl) (by simp) ?_
        refine (AllReadyH.cons (by (simp only [List.getElem?_toArray, List.getElem?_cons_zero, List.getElem?_cons_succ]) <;> rfl) (fun K hK => ?_) AllReadyH.nil)
        go_simp
        refine hK.out _ _ trivial (fun hHeld => ?_)
        (try clear hK K)
        (try simp only [Act.put, List.setIfInBounds_toArray, List.set_cons_zero, List.set_cons_succ])
        refine wpAnyH_done (by kernel_rfl) ?_ _
        clear hHeld
        go_wp2
        go_ret
        exact ⟨rfl, hend.out _ _ _ hO3 hs3 hfin⟩
variable {X : List Nat}
variable {X : List Nat}
theorem Fs.get {T : List Nat} {w : World} : ∀ {fs : List Fn} {vs : List Value} (_ : Fs T w fs vs) (i : Nat) (hi : i < fs.length), ∃ A c, vs[i * 3]? = some (.string fs[i].nm) ∧ vs[i * 3 + 1]? = some (.slice A fs[i].ar.length c) ∧ vs[i * 3 + 2]? = some (.int .i64 fs[i].rs) ∧ Ir T w A fs[i].ar ∧ fs[i].ar.length ≤ 64
  | f :: fs, _, ⟨A, c, r, e, h1, h2, _⟩, 0, _ => by subst e; exact ⟨A, c, rfl, rfl, rfl, h1, h2⟩
  | f :: fs, _, ⟨A', c', r, e, _, _, h3⟩, i + 1, hi => by
    subst e
    obtain ⟨A, c, q0, q1, q2, q3, q4⟩ := Fs.get h3 i (by simpa using hi)
    have e0 : (i + 1) * 3 = i * 3 + 1 + 1 + 1 := by omega
    have e1 : (i + 1) * 3 + 1 = i * 3 + 1 + 1 + 1 + 1 := by omega
    have e2 : (i + 1) * 3 + 2 = i * 3 + 2 + 1 + 1 + 1 := by omega
    refine ⟨A, c, ?_, ?_, ?_, by simpa using q3, by simpa using q4⟩
    · rw [e0]; simpa using q0
    · rw [e1]; simpa using q1
    · rw [e2]; simpa using q2
theorem find_yes (p : Nat) (T : List Nat) (N lv : Nat) (so fu : List (ByteArray × Nat)) (ty : List Fn) (s : ByteArray) (w : World) (h : Tb X w p T N lv so fu ty) (hs : s.size ≤ maxLen) (hN : N ≤ 1000000) (i : Nat) (hi : i < fu.length) (hi2 : i < ty.length) (hx : fu[i].1.data.toList = s.data.toList) :
    Calls Tryz.prog 102 #[.pointer (some ⟨p, 0, none⟩), .string s] w fun e w' => ∃ A c, e = .returned (.tuple #[.agg #[.string ty[i].nm, .slice A ty[i].ar.length c, .int .i64 ty[i].rs], .bool true]) ∧ (∀ S : List Nat, (∀ b ∈ S, b < w.heap.size) → Ir S w' A ty[i].ar) ∧ Below w.heap.size w w' := by
  obtain ⟨⟨v1, m1, v2, m2, v3, h⟩, hnames⟩ := h
  obtain ⟨W0, hW0⟩ : ∃ W, W = w.alloc (.cells #[.string ⟨#[]⟩, .slice none 0 0, .int .i64 0] 59) := ⟨_, rfl⟩
  have hX : Bk w.heap.size #[.string ⟨#[]⟩, .slice none 0 0, .int .i64 0] 59 W0 := by rw [hW0]; exact Bk.new _ _ _
  have hb0 : Below w.heap.size w W0 := by rw [hW0]; exact (Below.refl _ _).alloc (Nat.le_refl _) _
  have h0 : TbP X W0 p T N lv so fu ty v1 m1 v2 m2 v3 := h.off (S := []) (.of_below hb0 [])
  have hall : hasB fu s = true := by
    unfold hasB
    rw [List.any_eq_true]
    exact ⟨fu[i], List.getElem_mem hi, by rw [hx]; exact beq_self_eq_true _⟩
  have hplace := place_any p 3 m2 N fu s W0 (h0.bk.cell rfl) h0.fS.map hs
  rw [hall] at hplace
  obtain ⟨xs, hrow, hF⟩ := h0.tS
  obtain ⟨A, c, q0, q1, q2, q3, q4⟩ := Fs.get hF i hi2
  have hform : ∃ gt cap, v3 = .slice (some ⟨gt, 0, none⟩) ty.length cap := by
    rcases hrow.2 with ⟨e, h⟩ | ⟨g, cap, cu, e, _⟩
    · omega
    · exact ⟨_, _, e⟩
  obtain ⟨gt, cap, rfl⟩ := hform
  have r0 := hrow.cells (g := gt) rfl _ _ q0
  have r1 := hrow.cells (g := gt) rfl _ _ q1
  have r2 := hrow.cells (g := gt) rfl _ _ q2
  rw [Addr.add_lit, Nat.zero_add] at r0 r1 r2
  have y5 : W0.cell? ⟨p, 5, none⟩ = some (.slice (some ⟨gt, 0, none⟩) ty.length cap) := h0.bk.cell rfl
  have hown := own_any ty[i].nm A ty[i].ar c ty[i].rs _ W0 q3 (by omega)
  have hix : ∀ x : Int, (∀ j (h : j < fu.length), fu[j].1.data.toList = s.data.toList → x = (j : Int)) → x = (i : Int) := fun x h => h i hi hx
  have hix := hide hix
  have hn2 : ty.length ≤ 1000000 := by
    have := congrArg List.length hnames
    simp only [List.length_map] at this
    have := h.fS.le
    omega
  have hnext : ∀ w1, Below W0.heap.size W0 w1 → w1.cell? ⟨w.heap.size, 0, none⟩ = some (.string ⟨#[]⟩) ∧ w1.cell? ⟨w.heap.size, 1, none⟩ = some (.slice none 0 0) ∧ w1.cell? ⟨w.heap.size, 2, none⟩ = some (.int .i64 0) ∧ w1.frozen? ⟨w.heap.size, 0, none⟩ = false ∧ w1.frozen? ⟨w.heap.size, 1, none⟩ = false ∧ w1.frozen? ⟨w.heap.size, 2, none⟩ = false :=
    fun w1 hb => ⟨(hX.next hb).cell rfl, (hX.next hb).cell rfl, (hX.next hb).cell rfl, (hX.next hb).free 0, (hX.next hb).free 1, (hX.next hb).free 2⟩
  have hnext := hide hnext
  have hend : ∀ w1 A' c', Below W0.heap.size W0 w1 → (∀ S : List Nat, (∀ b ∈ S, b < W0.heap.size) → Ir S w1 A' ty[i].ar) → ∀ F, F = (((w1.setCell ⟨w.heap.size, 0, none⟩ (.string ty[i].nm)).setCell ⟨w.heap.size, 1, none⟩ (.slice A' ty[i].ar.length c')).setCell ⟨w.heap.size, 2, none⟩ (.int .i64 ty[i].rs)) →
      F.cell? ⟨w.heap.size, 0, none⟩ = some (.string ty[i].nm) ∧ F.cell? ⟨w.heap.size, 1, none⟩ = some (.slice A' ty[i].ar.length c') ∧ F.cell? ⟨w.heap.size, 2, none⟩ = some (.int .i64 ty[i].rs) ∧ (∀ S : List Nat, (∀ b ∈ S, b < w.heap.size) → Ir S F A' ty[i].ar) ∧ Below w.heap.size w F := by
    intro w1 A' c' hb hI F hFd
    have hY : Bk w.heap.size #[.string ty[i].nm, .slice A' ty[i].ar.length c', .int .i64 ty[i].rs] 59 F := by
      rw [hFd]; exact (((hX.next hb).set _ rfl).set _ rfl).set _ rfl
    have hO : Off [w.heap.size] w1 F := by
      rw [hFd]; exact (((Off.refl _ _).setCell _ _ (.inl (by simp))).setCell _ _ (.inl (by simp))).setCell _ _ (.inl (by simp))
    have hgl : w.heap.size < W0.heap.size := by rw [hW0]; simp
    refine ⟨hY.cell rfl, hY.cell rfl, hY.cell rfl, fun S hS => (hI (w.heap.size :: S) ?_).off hO (fun b hb => .inl (by simp at hb; simp [hb])) (fun b hb => .inl (List.mem_cons_of_mem _ hb)), ?_⟩
    · intro b hb
      rcases List.mem_cons.1 hb with hb | hb
      · omega
      · exact Nat.lt_of_lt_of_le (hS b hb) hb0.size
    · exact (hb0.trans (hb.mono hb0.size)).trans (hO.below (Nat.le_trans hb0.size hb.size) (by intro b hb; simp at hb; omega))
  have hend := hide hend
  have hW := hide hW0
  generalize ty[i].nm = nm at *
  generalize ty[i].rs = rs at *
  generalize hk : ty[i].ar = ar at *
  clear h h0 hX hb0 hall hrow hF q0 q1 q2 q3 hs hW0 hx hnames hk
  go_enter Tryz.func102, Tryz.ntmps102
  go_wp2_with first
    | (go_at_call 68; rw [← hW.out]; (with_reducible refine hplace.mono ?_); rintro e w' ⟨x, rfl, hc, rfl⟩; obtain rfl := hix.out x hc; clear hc)
    | (go_at_call 48; (with_reducible refine hown.mono ?_); rintro e w1 ⟨A', c', rfl, hI, hb1⟩; obtain ⟨d0, d1, d2, f0, f1, f2⟩ := hnext.out _ hb1)
  have E := hend.out w1 A' c' hb1 hI _ rfl
  obtain ⟨c0, c1, c2, hI2, hB2⟩ := E
  obtain ⟨F, hF⟩ : ∃ F, F = (((w1.setCell ⟨w.heap.size, 0, none⟩ (.string nm)).setCell ⟨w.heap.size, 1, none⟩ (.slice A' ar.length c')).setCell ⟨w.heap.size, 2, none⟩ (.int .i64 rs)) := ⟨_, rfl⟩
  rw [← hF] at c0 c1 c2 hI2 hB2 ⊢
  exact bodyPost_ret (v := .tuple #[.agg #[.string nm, .slice A' ar.length c', .int .i64 rs], .bool true]) (by simp [results, Tryz.results102, go_sem, c0, c1, c2]) rfl ⟨A', c', rfl, hI2, hB2⟩
end
end Nt
end Go.Proofs.YthabfakbdfaciaaGreat
