/-
  Levels that can't be ended; a table that is none.
-/
import Derived.Test.YtlcgdiciiibeeaaTn
namespace Go.Proofs.Ytlcgdiciiibeeaa
open Go.ChangeShapes Go.RowKit
namespace Nt
set_option maxRecDepth 100000
variable {X : List Nat}

theorem pop_nil (w : World) : Calls Try.prog 16 #[.pointer none, .int .i64 1] w fun e w' => e = .returned (.int .i64 5) ∧ w = w' := by
  have hl := levels_nil w
  go_enter Try.func16, Try.ntmps16
  go_wp2_with (go_at_call 27; (with_reducible refine hl.mono ?_); rintro e w' ⟨rfl, rfl⟩)
  go_ret
  exact ⟨rfl, rfl⟩

theorem pop_many (p : Nat) (T : List Nat) (N lv : Nat) (so fu : List (ByteArray × Nat)) (ty : List Fn) (w : World) (h : Tb X w p T N lv so fu ty) (n : Nat) (hn : lv < n) :
    Calls Try.prog 16 #[.pointer (some ⟨p, 0, none⟩), .int .i64 (n : Int)] w fun e w' => e = .returned (.int .i64 5) ∧ w = w' := by
  obtain ⟨⟨v1, m1, v2, m2, v3, h⟩, _⟩ := h
  have hlev := levels_any p lv w (h.bk.cell rfl)
  clear h
  go_enter Try.func16, Try.ntmps16
  go_wp2_with (go_at_call 27; (with_reducible refine hlev.mono ?_); rintro e w' ⟨rfl, rfl⟩)
  go_ret
  exact ⟨rfl, rfl⟩

theorem pop_zero (p : Nat) (T : List Nat) (N lv : Nat) (so fu : List (ByteArray × Nat)) (ty : List Fn) (w : World) (h : Tb X w p T N lv so fu ty) :
    Calls Try.prog 16 #[.pointer (some ⟨p, 0, none⟩), .int .i64 0] w fun e w' => e = .returned (.int .i64 0) ∧ w = w' := by
  obtain ⟨⟨v1, m1, v2, m2, v3, h⟩, _⟩ := h
  have hlev := levels_any p lv w (h.bk.cell rfl)
  have h0 : decide ((lv : Int) < 0) = false := decide_eq_false (by omega)
  clear h
  go_enter Try.func16, Try.ntmps16
  go_wp2_with (go_at_call 27; (with_reducible refine hlev.mono ?_); rintro e w' ⟨rfl, rfl⟩)
  go_ret
  exact ⟨rfl, rfl⟩

theorem pop_neg (q : Option Addr) (x : Int) (hx : x < 0) (w : World) :
    Calls Try.prog 16 #[.pointer q, .int .i64 x] w fun e w' => e = .returned (.int .i64 1) ∧ w = w' := by
  go_enter Try.func16, Try.ntmps16
  go_wp2
  go_ret
  exact ⟨rfl, rfl⟩

end Nt
end Go.Proofs.Ytlcgdiciiibeeaa
