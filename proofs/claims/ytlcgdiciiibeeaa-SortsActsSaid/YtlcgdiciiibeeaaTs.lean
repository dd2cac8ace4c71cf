/-
  A sort's number is told by its name; a stack of nothing is cut.
-/
import Derived.Test.YtlcgdiciiibeeaaTr
namespace Go.Proofs.Ytlcgdiciiibeeaa
open Go.ChangeShapes Go.RowKit
namespace Nt
set_option maxRecDepth 100000
variable {X : List Nat}
set_option linter.unusedSimpArgs false
set_option linter.unusedVariables false

def lBool : List UInt8 := [66, 111, 111, 108]
def lReal : List UInt8 := [82, 101, 97, 108]
/-- Where a name stands in a list of names. -/
def ixB (es : List (ByteArray × Nat)) (s : ByteArray) : Nat := es.findIdx (fun e => e.1.data.toList == s.data.toList)
theorem ixB_lt {es : List (ByteArray × Nat)} {s : ByteArray} (h : hasB es s = true) : ixB es s < es.length := by
  unfold hasB at h
  rw [List.any_eq_true] at h
  obtain ⟨e, he, hx⟩ := h
  exact List.findIdx_lt_length_of_exists ⟨e, he, hx⟩
theorem ixB_get {es : List (ByteArray × Nat)} {s : ByteArray} (h : hasB es s = true) : es[ixB es s]'(ixB_lt h) |>.1.data.toList = s.data.toList := by
  have := List.findIdx_getElem (xs := es) (p := fun e : ByteArray × Nat => e.1.data.toList == s.data.toList) (w := ixB_lt h)
  exact eq_of_beq this
/-- The number of a sort. -/
def fsI (so : List (ByteArray × Nat)) (s : ByteArray) : Int := if s.data.toList = lBool then 0 else if s.data.toList = lReal then 1 else if hasB so s = true then (ixB so s : Int) + 2 else 0
def fsB (so : List (ByteArray × Nat)) (s : ByteArray) : Bool := decide (s.data.toList = lBool) || decide (s.data.toList = lReal) || hasB so s

set_option maxHeartbeats 1000000 in
theorem fsort_any (p : Nat) (T : List Nat) (N lv : Nat) (so fu : List (ByteArray × Nat)) (ty : List Fn) (s : ByteArray) (w : World) (h : Tb X w p T N lv so fu ty) (hs : s.size ≤ maxLen) (hN : N ≤ 1000000) :
    Calls Try.prog 21 #[.pointer (some ⟨p, 0, none⟩), .string s] w fun e w' => e = .returned (.tuple #[.int .i64 (fsI so s), .bool (fsB so s)]) ∧ w = w' := by
  obtain ⟨⟨v1, m1, v2, m2, v3, h⟩, hnames⟩ := h
  have hp := place_any p 1 m1 N so s w (h.bk.cell rfl) h.sS.map hs
  have hlen : so.length ≤ 1000000 := Nat.le_trans h.sS.le hN
  clear h hs hnames
  by_cases hb : s.data.toList = lBool
  · have e1 : binOp .eql 9 (.string s) (.string ⟨#[66, 111, 111, 108]⟩) = pure (.bool true) := by rw [eql_s, hb]; rfl
    have r1 : fsI so s = 0 := by simp [fsI, hb]
    have r2 : fsB so s = true := by simp [fsB, hb]
    rw [r1, r2]
    clear hp hb r1 r2
    go_enter Try.func21, Try.ntmps21
    go_wp2
    go_ret2
    exact ⟨rfl, rfl⟩
  · have e1 : binOp .eql 9 (.string s) (.string ⟨#[66, 111, 111, 108]⟩) = pure (.bool false) := by rw [eql_s]; exact congrArg (fun b => pure (Value.bool b)) (beq_eq_false_iff_ne.2 hb)
    by_cases hr : s.data.toList = lReal
    · have e2 : binOp .eql 9 (.string s) (.string ⟨#[82, 101, 97, 108]⟩) = pure (.bool true) := by rw [eql_s, hr]; rfl
      have r1 : fsI so s = 1 := by simp [fsI, hb, hr]; rintro ⟨⟩
      have r2 : fsB so s = true := by simp [fsB, hr]
      rw [r1, r2]
      clear hp hb hr r1 r2
      go_enter Try.func21, Try.ntmps21
      go_wp2
      go_ret2
      exact ⟨rfl, rfl⟩
    · have e2 : binOp .eql 9 (.string s) (.string ⟨#[82, 101, 97, 108]⟩) = pure (.bool false) := by rw [eql_s]; exact congrArg (fun b => pure (Value.bool b)) (beq_eq_false_iff_ne.2 hr)
      cases hh : hasB so s
      · have r1 : fsI so s = 0 := by simp [fsI, hb, hr, hh]
        have r2 : fsB so s = false := by simp [fsB, hb, hr, hh]
        rw [r1, r2]
        rw [hh] at hp
        clear hb hr r1 r2 hh
        go_enter Try.func21, Try.ntmps21
        go_wp2_with (go_at_call 41; (with_reducible refine hp.mono ?_); rintro e w' ⟨x, rfl, hc, rfl⟩; clear hc)
        go_ret2
        exact ⟨rfl, rfl⟩
      · have r1 : fsI so s = (ixB so s : Int) + 2 := by simp [fsI, hb, hr, hh]
        have r2 : fsB so s = true := by simp [fsB, hh]
        rw [r1, r2]
        have hix : ∀ x : Int, (∀ j (h : j < so.length), so[j].1.data.toList = s.data.toList → x = (j : Int)) → x = (ixB so s : Int) := fun x h => h _ (ixB_lt hh) (ixB_get hh)
        have hix := hide hix
        have hil : ixB so s ≤ 1000000 := Nat.le_trans (Nat.le_of_lt (ixB_lt hh)) hlen
        rw [hh] at hp
        clear hb hr r1 r2 hh
        generalize ixB so s = i at *
        go_enter Try.func21, Try.ntmps21
        go_wp2_with (go_at_call 41; (with_reducible refine hp.mono ?_); rintro e w' ⟨x, rfl, hc, rfl⟩; obtain rfl := hix.out x hc; clear hc)
        go_ret2
        exact ⟨rfl, rfl⟩

set_option maxHeartbeats 1000000 in
/-- A stack of nothing is cut. -/
theorem cut_empty (p o : Nat) (t : TypeId) (cur : Array Value) (g c : Nat) (m : Option Nat) (N lv : Nat) (w : World)
    (hB : Bk p cur t w) (h0 : cur[o]? = some (.slice (some ⟨g, 0, none⟩) 0 c)) (hS : Stk w (.slice (some ⟨g, 0, none⟩) 0 c) m N []) (hc : c ≤ maxLen) :
    Calls Try.prog 40 #[.pointer (some ⟨p, o, none⟩), .int .i64 (lv : Int)] w fun e w' => e = .returned (.tuple #[]) ∧ Cut p o t cur (.slice (some ⟨g, 0, none⟩) 0 c) m N (keepL lv []) w w' := by
  have hcu : Cut p o t cur (.slice (some ⟨g, 0, none⟩) 0 c) m N (keepL lv []) w (w.setCell ⟨p, o, none⟩ (.slice (some ⟨g, 0, none⟩) 0 c)) := by
    rw [setCell_same hB h0]
    exact ⟨_, hS, by rw [set_same h0]; exact hB, .refl _ _, rfl⟩
  have hcu := hide hcu
  have hcl : ∀ ty d, (Builtin.clear_ #[65] ty #[.slice (some ⟨g, 0, none⟩) 0 d]).run Try.prog w = .ok (.tuple #[]) w := fun ty d => by simp [Builtin.clear_, run_underlying Try.underlying65]
  have e0 : w.cell? ⟨p, o, none⟩ = some (.slice (some ⟨g, 0, none⟩) 0 c) := hB.cell h0
  have e1 := hB.free o
  have hc3 : c ≤ 9223372036854775807 := by unfold maxLen at hc; omega
  clear hB h0 hS hc
  by_cases hz : c = 0
  all_goals
    try subst hz
    go_enter Try.func40, Try.ntmps40
    go_wp2
    go_loopw [4] (fun i wr => i = .int .i64 0 ∧ wr = w) (fun i _ => (intOf i).toNat)
    case atStart => exact ⟨rfl, rfl⟩
    case round =>
      obtain ⟨rfl, rfl⟩ := hrel
      go_wp2
      go_end0
      exact ⟨rfl, hcu.out⟩

theorem cut_nil (p o : Nat) (t : TypeId) (cur : Array Value) (m : Option Nat) (N lv : Nat) (w : World)
    (hB : Bk p cur t w) (h0 : cur[o]? = some (.slice none 0 0)) (hS : Stk w (.slice none 0 0) m N []) :
    Calls Try.prog 40 #[.pointer (some ⟨p, o, none⟩), .int .i64 (lv : Int)] w fun e w' => e = .returned (.tuple #[]) ∧ Cut p o t cur (.slice none 0 0) m N (keepL lv []) w w' := by
  have hc : Cut p o t cur (.slice none 0 0) m N (keepL lv []) w (w.setCell ⟨p, o, none⟩ (.slice none 0 0)) := by
    rw [setCell_same hB h0]
    exact ⟨_, hS, by rw [set_same h0]; exact hB, .refl _ _, rfl⟩
  have hc := hide hc
  have hcl : ∀ ty, (Builtin.clear_ #[65] ty #[.slice none 0 0]).run Try.prog w = .ok (.tuple #[]) w := fun ty => by simp [Builtin.clear_, run_underlying Try.underlying65]
  have e0 : w.cell? ⟨p, o, none⟩ = some (.slice none 0 0) := hB.cell h0
  have e1 := hB.free o
  clear hB h0 hS
  go_enter Try.func40, Try.ntmps40
  go_wp2
  go_loopw [4] (fun i wr => i = .int .i64 0 ∧ wr = w) (fun i _ => (intOf i).toNat)
  case atStart => exact ⟨rfl, rfl⟩
  case round =>
    obtain ⟨rfl, rfl⟩ := hrel
    go_wp2
    go_end0
    exact ⟨rfl, hc.out⟩

/-- A stack is cut. -/
theorem cut_any (p o : Nat) (t : TypeId) (cur : Array Value) (v : Value) (m : Option Nat) (N lv : Nat) (es : List (ByteArray × Nat)) (w : World)
    (hB : Bk p cur t w) (h0 : cur[o]? = some v) (h1 : cur[o + 1]? = some (.map m)) (hS : Stk w v m N es) (hp : p ∉ bks v m) (hN : N ≤ 1000000) :
    Calls Try.prog 40 #[.pointer (some ⟨p, o, none⟩), .int .i64 (lv : Int)] w fun e w' => e = .returned (.tuple #[]) ∧ Cut p o t cur v m N (keepL lv es) w w' := by
  have ho := hS.once
  rcases hS.row.2 with ⟨e, hl⟩ | ⟨g, cap, cu, e, _, hg, hcap, hmax, hsz, htk⟩
  · subst e
    have : es = [] := List.eq_nil_of_length_eq_zero hl
    subst this
    exact cut_nil p o t cur m N lv w hB h0 hS
  · subst e
    by_cases hn : es = []
    · subst hn
      exact cut_empty p o t cur g cap m N lv w hB h0 hS (by omega)
    · rcases hS.map with ⟨rfl, h⟩ | ⟨b, D, rfl, hown, hD⟩
      · exact absurd h hn
      · have hpg : p ≠ g := fun e => hp (by simp [bks, Value.ownBlock, e])
        have hpb : p ≠ b := fun e => hp (by simp [bks, e])
        have hgb : g ≠ b := fun e => by
          subst e
          simp [bks, Value.ownBlock] at ho
        exact cut_some p o t cur g cap b N lv es w hB h0 h1 hS hpg hpb hgb hN (by omega) hcap
end Nt
end Go.Proofs.Ytlcgdiciiibeeaa
