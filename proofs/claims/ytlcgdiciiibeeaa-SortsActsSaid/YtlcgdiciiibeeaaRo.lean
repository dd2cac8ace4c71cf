/-
  The law of acts, whatever the arguments.
-/
import Derived.Test.YtlcgdiciiibeeaaRm
namespace Go.Proofs.Ytlcgdiciiibeeaa
open Go.ChangeShapes Go.RowKit
namespace Nt
set_option maxRecDepth 100000
set_option linter.unusedSimpArgs false
set_option linter.unusedVariables false
theorem acts_law (A : Option Addr) (l : List Ac) (c : Nat) (name : ByteArray) (w : World) (h : Av w.heap.size w A l) (hl : l.length ≤ maxLen) (hsz : ∀ a ∈ l, a.nm.size ≤ maxLen ∧ a.f.nm.size ≤ maxLen ∧ a.f.ar.length ≤ maxLen) (hn : name.size ≤ maxLen) :
    Calls Try.prog 3 #[.slice A l.length c, .string name] w fun e w' => e = .returned (.bool true) ∧ Below w.heap.size w w' := by
  by_cases hc : fewB l = true ∧ name.size ≤ 300
  · exact acts_near A l c name w h hl hsz hc.1 hc.2
  · have hfew := few_any A l c w h hl hsz
    have ha := awake6 w
    have hn2 : name.size ≤ 9223372036854775807 := by unfold maxLen at hn; omega
    obtain ⟨b, hb⟩ : ∃ b, b = fewB l := ⟨_, rfl⟩
    rw [← hb] at hfew hc
    rcases b with _ | _
    · clear hc hb h hsz hl
      generalize l.length = n at *
      go_enter Try.func3, Try.ntmps3
      go_wp2_with first
        | (go_at_call 7; (with_reducible refine hfew.mono ?_); rintro e w' ⟨rfl, rfl⟩)
        | (go_at_call 8; (with_reducible refine ha.mono ?_); rintro e w2 ⟨rfl, hb⟩)
      go_ret
      exact ⟨rfl, hb⟩
    · have hn3 : 300 < name.size := by simp at hc; omega
      have hd : decide (300 < name.size) = true := decide_eq_true hn3
      have hd2 : decide ((300 : Int) < (name.size : Int)) = true := decide_eq_true (by omega)
      clear hc hb h hsz hl
      generalize l.length = n at *
      go_enter Try.func3, Try.ntmps3
      go_wp2_with first
        | (go_at_call 7; (with_reducible refine hfew.mono ?_); rintro e w' ⟨rfl, rfl⟩)
        | (go_at_call 8; (with_reducible refine ha.mono ?_); rintro e w2 ⟨rfl, hb⟩)
      go_ret
      exact ⟨rfl, hb⟩
end Nt
end Go.Proofs.Ytlcgdiciiibeeaa
