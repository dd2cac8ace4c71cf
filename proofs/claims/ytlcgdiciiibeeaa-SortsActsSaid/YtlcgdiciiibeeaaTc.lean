/-
  A stack of names in memory, and the small functions of a table.
-/
import Derived.StringKeys
import Derived.Test.YtlcgdiciiibeeaaTb
namespace Go.Proofs.Ytlcgdiciiibeeaa
open Go.ChangeShapes Go.RowKit
open Go.Maps (Keyed string_keyed)
open Go.ChangeMaps Go.MapKept Go.WideMaps
namespace Nt
set_option maxRecDepth 100000

theorem lawS : Keyed Try.prog 9 := string_keyed Try.underlying9
theorem zeroI (w : World) : (zeroValue 3).run Try.prog w = .ok (.int .i64 0) w := by kernel_rfl

/-- The cells of a list of names. -/
def ecs (es : List (ByteArray × Nat)) : List Value := es.flatMap fun e => [.string e.1, .int .i64 (e.2 : Int)]
/-- A map of names. -/
def Mp (w : World) (m : Option Nat) (N : Nat) (es : List (ByteArray × Nat)) : Prop :=
  (m = none ∧ es = []) ∨ ∃ b D, m = some b ∧ w.ownsMap Try.prog 9 (plainElem (H := Unit) Try.prog 3) b N D ∧ Nm D es
/-- A stack of names: its list v, its map m. -/
structure Stk (w : World) (v : Value) (m : Option Nat) (N : Nat) (es : List (ByteArray × Nat)) : Prop where
  row : w.ownsRow 0 81 2 v es.length (ecs es)
  map : Mp w m N es
  le : es.length ≤ N
def hasB (es : List (ByteArray × Nat)) (s : ByteArray) : Bool := es.any (fun e => e.1.data.toList == s.data.toList)
/-- The blocks of a stack. -/
def bks (v : Value) (m : Option Nat) : List Nat := v.ownBlock.toList ++ m.toList

set_option maxRecDepth 100000 in
theorem place_any (p o : Nat) (m : Option Nat) (N : Nat) (es : List (ByteArray × Nat)) (s : ByteArray) (w : World) (hm : w.cell? ⟨p, o + 1, none⟩ = some (.map m)) (h : Mp w m N es) (hs : s.size ≤ maxLen) :
    Calls Try.prog 41 #[.pointer (some ⟨p, o, none⟩), .string s] w fun e w' => ∃ c : Int, e = .returned (.tuple #[.int .i64 c, .bool (hasB es s)]) ∧ (∀ i (h : i < es.length), es[i].1.data.toList = s.data.toList → c = (i : Int)) ∧ w = w' := by
  have hkey : keyOf Try.prog 9 (.string s) = some (kl s) := keyOf_string_mk Try.underlying9 hs
  obtain ⟨c, hrun, hc⟩ : ∃ c : Int, (Instr.lookup 66 (.map m) (.string s) true).run Try.prog w = .ok (.tuple #[.int .i64 c, .bool (hasB es s)]) w ∧ (∀ i (h : i < es.length), es[i].1.data.toList = s.data.toList → c = (i : Int)) := by
    rcases h with ⟨rfl, rfl⟩ | ⟨b, D, rfl, hown, hn⟩
    · exact ⟨0, Maps.look_nil true lawS Try.underlying66 (zeroI w) hkey, fun i hi => by simp at hi⟩
    · obtain ⟨v, ps, hrun, hv⟩ := hown.look_ok lawS Try.underlying66 (zeroI w) (plainElem_int (q := .i64) Try.underlying3 (by decide)) hkey
      obtain ⟨c, rfl, hc, _⟩ := plainElem_int_inv Try.underlying3 hv
      rw [hn.has] at hrun
      refine ⟨c, hrun, fun i hi he => ?_⟩
      have h1 := hn.at_ i hi
      have e : kl es[i].1 = kl s := by unfold kl; rw [he]
      rw [e] at h1
      have h2 := congrArg Prod.fst hc
      simp only at h2
      rw [h1] at h2
      injection h2 with h3
      injection h3 with _ h4
      exact h4.symm
  generalize hasB es s = x at hrun ⊢
  have hc := hide hc
  clear h hkey hs
  go_enter Try.func41, Try.ntmps41
  go_wp2
  go_ret2
  exact ⟨c, rfl, hc.out, rfl⟩

theorem len_any (p o n c : Nat) (A : Option Addr) (w : World) (hv : w.cell? ⟨p, o, none⟩ = some (.slice A n c)) :
    Calls Try.prog 34 #[.pointer (some ⟨p, o, none⟩)] w fun e w' => e = .returned (.int .i64 (n : Int)) ∧ w = w' := by
  go_enter Try.func34, Try.ntmps34
  go_wp2
  go_ret
  exact ⟨rfl, rfl⟩

theorem levels_any (p : Nat) (l : Nat) (w : World) (hv : w.cell? ⟨p, 0, none⟩ = some (.int .i64 (l : Int))) :
    Calls Try.prog 27 #[.pointer (some ⟨p, 0, none⟩)] w fun e w' => e = .returned (.int .i64 (l : Int)) ∧ w = w' := by
  go_enter Try.func27, Try.ntmps27
  go_wp2
  go_ret
  exact ⟨rfl, rfl⟩
theorem levels_nil (w : World) : Calls Try.prog 27 #[.pointer none] w fun e w' => e = .returned (.int .i64 0) ∧ w = w' := by
  go_enter Try.func27, Try.ntmps27
  go_wp2
  go_ret
  exact ⟨rfl, rfl⟩

/-- Is a number that of a sort that is there, where n were declared? -/
def knownB (n : Nat) (x : Int) : Bool := decide (0 ≤ x) && decide (x < (n : Int) + 2)

theorem known_any (p n c : Nat) (A : Option Addr) (x : Int) (w : World) (hv : w.cell? ⟨p, 1, none⟩ = some (.slice A n c)) (hn : n ≤ 1000000) :
    Calls Try.prog 42 #[.pointer (some ⟨p, 0, none⟩), .int .i64 x] w fun e w' => e = .returned (.bool (knownB n x)) ∧ w = w' := by
  have hlen := len_any p 1 n c A w hv
  have go : ∀ b, knownB n x = b → Calls Try.prog 42 #[.pointer (some ⟨p, 0, none⟩), .int .i64 x] w fun e w' => e = .returned (.bool b) ∧ w = w' := by
    intro b hb
    by_cases h1 : 0 ≤ x
    · by_cases h2 : x < (n : Int) + 2
      · have : b = true := by rw [← hb]; simp [knownB, h1, h2]
        subst this
        clear hb
        go_enter Try.func42, Try.ntmps42
        go_wp2_with (go_at_call 34; refine hlen.mono ?_; rintro e w' ⟨rfl, rfl⟩)
        go_ret
        exact ⟨rfl, rfl⟩
      · have : b = false := by rw [← hb]; simp [knownB, h1, h2]
        subst this
        clear hb
        have h3 : decide (x < (n : Int) + 2) = false := decide_eq_false h2
        go_enter Try.func42, Try.ntmps42
        go_wp2_with (go_at_call 34; refine hlen.mono ?_; rintro e w' ⟨rfl, rfl⟩)
        go_ret
        exact ⟨rfl, rfl⟩
    · have : b = false := by rw [← hb]; simp [knownB, h1]
      subst this
      clear hb
      go_enter Try.func42, Try.ntmps42
      go_wp2
      go_ret
      exact ⟨rfl, rfl⟩
  exact go _ rfl

def nameB (s : ByteArray) : Bool := decide (1 ≤ s.size) && decide (s.size ≤ 200) && !resB s
def freeB (es : List (ByteArray × Nat)) (s : ByteArray) : Bool := nameB s && !hasB es s

theorem free_any (p o : Nat) (m : Option Nat) (N : Nat) (es : List (ByteArray × Nat)) (s : ByteArray) (w : World) (hm : w.cell? ⟨p, o + 1, none⟩ = some (.map m)) (h : Mp w m N es) (hs : s.size ≤ maxLen) :
    Calls Try.prog 33 #[.string s, .pointer (some ⟨p, o, none⟩)] w fun e w' => e = .returned (.bool (freeB es s)) ∧ w = w' := by
  have hp := place_any p o m N es s w hm h hs
  have hr := reserved_any s w
  have go : ∀ b, freeB es s = b → Calls Try.prog 33 #[.string s, .pointer (some ⟨p, o, none⟩)] w fun e w' => e = .returned (.bool b) ∧ w = w' := by
    intro b hb
    by_cases h0 : s.size = 0
    · have hl : s.data.toList = [] := by
        have : s.data.toList.length = 0 := by simpa using h0
        exact List.eq_nil_of_length_eq_zero this
      have e1 : binOp .eql 9 (.string s) (.string ⟨#[]⟩) = pure (.bool true) := by rw [eql_s, hl]; rfl
      have : b = false := by rw [← hb]; simp [freeB, nameB, h0]
      subst this
      clear hb h hm hp hr hl h0 hs
      go_enter Try.func33, Try.ntmps33
      go_wp2
      go_ret
      exact ⟨rfl, rfl⟩
    · have e1 : binOp .eql 9 (.string s) (.string ⟨#[]⟩) = pure (.bool false) := by
        rw [eql_s, beq_eq_false_iff_ne.2]
        intro e
        apply h0
        have := congrArg List.length e
        simpa using this
      have hs2 : s.size ≤ 9223372036854775807 := by unfold maxLen at hs; omega
      by_cases h1 : s.size ≤ 200
      · cases h2 : resB s
        · rw [h2] at hr
          have : b = !hasB es s := by
            rw [← hb]
            have : 1 ≤ s.size := by omega
            simp [freeB, nameB, this, h1, h2]
          subst this
          clear hb h hm h2 hs
          generalize hasB es s = y at hp ⊢
          go_enter Try.func33, Try.ntmps33
          go_wp2_with first
            | (go_at_call 29; refine hr.mono ?_; rintro e w' ⟨rfl, rfl⟩)
            | (go_at_call 41; refine hp.mono ?_; rintro e w' ⟨c, rfl, hc, rfl⟩)
          go_ret
          exact ⟨rfl, rfl⟩
        · rw [h2] at hr
          have : b = false := by rw [← hb]; simp [freeB, nameB, h2]
          subst this
          clear hb h hm h2 hp hs
          go_enter Try.func33, Try.ntmps33
          go_wp2_with (go_at_call 29; refine hr.mono ?_; rintro e w' ⟨rfl, rfl⟩)
          go_ret
          exact ⟨rfl, rfl⟩
      · have : b = false := by rw [← hb]; simp [freeB, nameB, h1]
        subst this
        clear hb h hm hp hr hs
        go_enter Try.func33, Try.ntmps33
        go_wp2
        go_ret
        exact ⟨rfl, rfl⟩
  exact go _ rfl
end Nt
end Go.Proofs.Ytlcgdiciiibeeaa
