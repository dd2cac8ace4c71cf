/-
  Reserved: which names mean something else.
-/
import Derived.WalkKit
import Derived.WalkSpells
import Derived.Deep.Draws
import Derived.Test.YtlcgdiciiibeeaaMem
import Derived.Test.YtlcgdiciiibeeaaProg
namespace Go.Proofs.Ytlcgdiciiibeeaa
open Go.ChangeShapes Go.RowKit
namespace Nt

/-- The words that mean something else. -/
def resL : List (List UInt8) := [[116, 114, 117, 101], [102, 97, 108, 115, 101], [110, 111, 116], [97, 110, 100], [111, 114], [61, 62], [120, 111, 114], [61], [100, 105, 115, 116, 105, 110, 99, 116], [105, 116, 101], [108, 101, 116], [43], [45], [42], [47], [60, 61], [60], [62, 61], [62], [66, 111, 111, 108], [82, 101, 97, 108], [95], [33], [97, 115], [101, 120, 105, 115, 116, 115], [102, 111, 114, 97, 108, 108], [112, 97, 114]]
def resB (s : ByteArray) : Bool := resL.contains s.data.toList

theorem eql_s (t : TypeId) (a b : ByteArray) : binOp .eql t (.string a) (.string b) = pure (.bool (a.data.toList == b.data.toList)) := by
  rw [binOp_string_eql, ByteArray.toList_eq, ByteArray.toList_eq]

set_option maxHeartbeats 4000000 in
theorem reserved_any (s : ByteArray) (w : World) : Calls Try.prog 29 #[.string s] w fun e w' => e = .returned (.bool (resB s)) ∧ w' = w := by
  obtain ⟨l, hl⟩ : ∃ l, l = s.data.toList := ⟨_, rfl⟩
  have e1 : ∀ b : ByteArray, binOp .eql 9 (.string s) (.string b) = pure (.bool (l == b.data.toList)) := fun b => by rw [eql_s, hl]
  have hr : resB s = resL.contains l := by rw [hl]; rfl
  rw [hr]
  clear hr hl
  obtain ⟨x, hx⟩ : ∃ x, x = resL.contains l := ⟨_, rfl⟩
  rw [← hx]
  have hx := hide hx
  go_enter Try.func29, Try.ntmps29
  go_wp2
  all_goals first
    | (exfalso; simp_all; done)
    | (have h0 : x = true := by (have h1 := hx.out; simp_all [resL]; done)
       subst h0; go_ret; exact ⟨rfl, rfl⟩)
    | (have h0 : x = false := by (have h1 := hx.out; simp_all [resL]; done)
       subst h0; go_ret; exact ⟨rfl, rfl⟩)
end Nt
end Go.Proofs.Ytlcgdiciiibeeaa
