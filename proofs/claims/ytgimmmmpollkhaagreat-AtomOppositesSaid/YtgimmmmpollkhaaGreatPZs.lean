/-
  The law AtomForms.
-/
import Derived.Test.YtgimmmmpollkhaaGreatPZo
import Derived.Test.YtgimmmmpollkhaaGreatPZr
namespace Go.Proofs.YtgimmmmpollkhaaGreat
open Go.ChangeShapes Go.RowKit
namespace Nt
set_option maxRecDepth 100000
set_option linter.unusedSimpArgs false
set_option linter.unusedVariables false

theorem round_math (x : Int) (n : Nat) (hn : 0 < n) : ((x.tmod n) + n).tmod n = x % n := by
  have h1 := Int.tmod_eq_emod_of_nonneg (a := x.tmod n + n) (b := n) (by have := Int.lt_tmod_of_pos x (b := (n : Int)) (by omega); omega)
  rw [h1, Int.add_emod_right, Int.tmod_def, Int.sub_eq_add_neg, ← Int.mul_neg, Int.add_mul_emod_self_left]
theorem round_any (x : Int) (n : Nat) (hn : 0 < n) (hl : n ≤ 1000000) (w : World) :
    Calls Tryz.prog 48 #[.int .i64 x, .int .i64 (n : Int)] w fun e w' => e = .returned (.int .i64 (x % (n : Int))) ∧ w = w' := by
  have hm := round_math x n hn
  have b1 := Int.lt_tmod_of_pos x (b := (n : Int)) (by omega)
  have b2 := Int.tmod_lt_of_pos x (b := (n : Int)) (by omega)
  have hm := hide hm
  have hnz : (n : Int) ≠ 0 := by omega
  go_enter Tryz.func48, Tryz.ntmps48
  go_wp2
  go_ret
  exact ⟨rfl, rfl⟩
theorem add_z (t : TypeId) (x y z : Int) (h : x + y = z) (h1 : -9223372036854775808 ≤ z) (h2 : z ≤ 9223372036854775807) : binOp .add t (.int .i64 x) (.int .i64 y) = pure (.int .i64 z) := by
  have e : IntKind.i64.wrap (x + y) = z := by rw [h, IntWalk.i64_in _ ⟨by omega, by omega⟩]
  rw [← e]
  rfl
theorem mf_form {k : Int} {L : List (Rat × Int)} {q : Rat} (h : Mf k L q) : formB k L = true := h.1
theorem qs_neg_f {q : Rat} (h : qs q = true) : qs (-q) = false := by rw [qs_neg, h]; rfl
def W02 (w : World) (c kk : Pt) (A : Option Addr) (n kc : Nat) : World := (w.alloc (.cells #[.slice A n kc, .bool c.s, .slice c.A c.xs.length c.a, .slice c.B c.ys.length c.b] 27)).alloc (.cells #[.bool kk.s, .slice kk.A kk.xs.length kk.a, .slice kk.B kk.ys.length kk.b] 25)
/-- The boxes of a sum and a number. -/
def B2 (w : World) (c kk : Pt) (A : Option Addr) (n kc : Nat) (W : World) : Prop := C4 w.heap.size (.slice A n kc) (.bool c.s) (.slice c.A c.xs.length c.a) (.slice c.B c.ys.length c.b) W ∧ Bk (w.heap.size + 1) #[.bool kk.s, .slice kk.A kk.xs.length kk.a, .slice kk.B kk.ys.length kk.b] 25 W
theorem B2.start (w : World) (c kk : Pt) (A : Option Addr) (n kc : Nat) : B2 w c kk A n kc (W02 w c kk A n kc) ∧ Below w.heap.size w (W02 w c kk A n kc) := by
  have h1 : Bk w.heap.size #[.slice A n kc, .bool c.s, .slice c.A c.xs.length c.a, .slice c.B c.ys.length c.b] 27 (W02 w c kk A n kc) := (Bk.new _ _ w).al _
  have h2 : Bk (w.heap.size + 1) #[.bool kk.s, .slice kk.A kk.xs.length kk.a, .slice kk.B kk.ys.length kk.b] 25 (W02 w c kk A n kc) := Bk.new1 _ _ w _
  exact ⟨⟨C4.of h1, h2⟩, bl_al (bl_al (.refl _ _) _) _⟩
theorem B2.next {w : World} {c kk : Pt} {A : Option Addr} {n kc : Nat} {W W' : World} (h : B2 w c kk A n kc W) (hb : Below W.heap.size W W') : B2 w c kk A n kc W' := ⟨h.1.next hb, h.2.next hb⟩

end Nt
end Go.Proofs.YtgimmmmpollkhaaGreat
