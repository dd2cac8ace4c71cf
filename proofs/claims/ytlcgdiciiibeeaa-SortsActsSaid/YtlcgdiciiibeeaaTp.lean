/-
  The order of functions; a number in a round.
-/
import Derived.Test.YtlcgdiciiibeeaaTo
namespace Go.Proofs.Ytlcgdiciiibeeaa
open Go.ChangeShapes Go.RowKit
namespace Nt
set_option maxRecDepth 100000

theorem cmp_fun (a b : ByteArray) (A B : Option Addr) (n c m d : Nat) (x y : Int) (w : World) :
    Calls Try.prog 44 #[.agg #[.string a, .slice A n c, .int .i64 x], .agg #[.string b, .slice B m d, .int .i64 y]] w fun e w' => e = .returned (.int .i64 (Lib.compareBytes a.data.toList b.data.toList)) ∧ Below w.heap.size w w' := by
  have h := fun w => Try.strings_Compare a b w
  have hb : ∀ o1 o2 : Obj, Below w.heap.size w ((w.alloc o1).alloc o2) := fun o1 o2 => ((Below.refl _ _).alloc (Nat.le_refl _) o1).alloc (by simp) o2
  go_enter Try.func44, Try.ntmps44
  go_wp2_with (go_at_call 45; (with_reducible refine (h _).mono ?_); rintro e w' ⟨rfl, rfl⟩)
  go_ret
  exact ⟨rfl, hb _ _⟩

theorem round_math (x : Int) (n : Nat) (hn : 0 < n) : ((x.tmod n) + n).tmod n = x % n := by
  have h1 := Int.tmod_eq_emod_of_nonneg (a := x.tmod n + n) (b := n) (by have := Int.lt_tmod_of_pos x (b := (n : Int)) (by omega); omega)
  rw [h1, Int.add_emod_right, Int.tmod_def, Int.sub_eq_add_neg, ← Int.mul_neg, Int.add_mul_emod_self_left]

theorem round_any (x : Int) (n : Nat) (hn : 0 < n) (hl : n ≤ 1000000) (w : World) :
    Calls Try.prog 31 #[.int .i64 x, .int .i64 (n : Int)] w fun e w' => e = .returned (.int .i64 (x % (n : Int))) ∧ w = w' := by
  have hm := round_math x n hn
  have b1 := Int.lt_tmod_of_pos x (b := (n : Int)) (by omega)
  have b2 := Int.tmod_lt_of_pos x (b := (n : Int)) (by omega)
  have hm := hide hm
  have hnz : (n : Int) ≠ 0 := by omega
  go_enter Try.func31, Try.ntmps31
  go_wp2
  go_ret
  exact ⟨rfl, rfl⟩
end Nt
end Go.Proofs.Ytlcgdiciiibeeaa
