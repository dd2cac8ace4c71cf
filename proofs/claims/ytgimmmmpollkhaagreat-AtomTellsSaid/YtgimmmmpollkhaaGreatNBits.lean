
/-
  math/bits at this translation: Add64, Sub64 (entries of the model), Mul64 (the shelf's contract, laid here by name).
-/
import Derived.Test.YtgimmmmpollkhaaGreatProg
import Derived.Test.YtgimmmmpollkhaaGreatNMem
import Derived.Laws.Externs
import Derived.Test.YtgimmmmpollkhaaGreatShelf
namespace Go.Proofs.YtgimmmmpollkhaaGreat

open Go.RowKit Go.Shelf

namespace Nt

def add64E : Array Value → Sem Value := fun args => do
  let (x, y, c) ← Extern.MathBitsCarry.three "Add64" args
  pure (Extern.MathBitsCarry.pair ((x + y + c) % Extern.MathBitsCarry.m64) ((x + y + c) / Extern.MathBitsCarry.m64))
def sub64E : Array Value → Sem Value := fun args => do
  let (x, y, b) ← Extern.MathBitsCarry.three "Sub64" args
  pure (Extern.MathBitsCarry.pair ((x + Extern.MathBitsCarry.m64 - y - b) % Extern.MathBitsCarry.m64) (if x < y + b then 1 else 0))

theorem run_sub64E {P : Program} (x y b : Nat) (hb : b ≤ 1) (w : World) :
    (sub64E #[.int .u64 x, .int .u64 y, .int .u64 b]).run P w =
      .ok (.tuple #[.int .u64 (((x + 18446744073709551616 - y - b) % 18446744073709551616 : Nat) : Int), .int .u64 ((if x < y + b then 1 else 0 : Nat) : Int)]) w := by
  have : b = 0 ∨ b = 1 := by omega
  rcases this with rfl | rfl <;> rfl
theorem run_add64E {P : Program} (x y c : Nat) (hc : c ≤ 1) (w : World) :
    (add64E #[.int .u64 x, .int .u64 y, .int .u64 c]).run P w =
      .ok (.tuple #[.int .u64 (((x + y + c) % 18446744073709551616 : Nat) : Int), .int .u64 (((x + y + c) / 18446744073709551616 : Nat) : Int)]) w := by
  have : c = 0 ∨ c = 1 := by omega
  rcases this with rfl | rfl <;> rfl

def sumL (x y c : Nat) : Nat := (x + y + c) % LB
def carL (x y c : Nat) : Nat := (x + y + c) / LB
def difL (x y b : Nat) : Nat := (x + LB - y - b) % LB
def borL (x y b : Nat) : Nat := if x < y + b then 1 else 0

theorem add64 (x y c : Nat) (hc : c ≤ 1) (w : World) :
    (callFunc 132 #[.int .u64 (x : Int), .int .u64 (y : Int), .int .u64 (c : Int)]).run Tryz.prog w =
      .ok (.value (.tuple #[.int .u64 ((sumL x y c : Nat) : Int), .int .u64 ((carL x y c : Nat) : Int)])) w := by
  rw [run_callFunc_extern Tryz.func132 (by kernel_rfl) (by kernel_rfl) (by kernel_rfl) (e := add64E) (by kernel_rfl), run_add64E x y c hc]
  rfl
theorem sub64 (x y b : Nat) (hb : b ≤ 1) (w : World) :
    (callFunc 157 #[.int .u64 (x : Int), .int .u64 (y : Int), .int .u64 (b : Int)]).run Tryz.prog w =
      .ok (.value (.tuple #[.int .u64 ((difL x y b : Nat) : Int), .int .u64 ((borL x y b : Nat) : Int)])) w := by
  rw [run_callFunc_extern Tryz.func157 (by kernel_rfl) (by kernel_rfl) (by kernel_rfl) (e := sub64E) (by kernel_rfl), run_sub64E x y b hb]
  rfl
theorem add64_0 (x y : Nat) (w : World) :
    (callFunc 132 #[.int .u64 (x : Int), .int .u64 (y : Int), .int .u64 0]).run Tryz.prog w =
      .ok (.value (.tuple #[.int .u64 ((sumL x y 0 : Nat) : Int), .int .u64 ((carL x y 0 : Nat) : Int)])) w := add64 x y 0 (by omega) w
theorem sub64_0 (x y : Nat) (w : World) :
    (callFunc 157 #[.int .u64 (x : Int), .int .u64 (y : Int), .int .u64 0]).run Tryz.prog w =
      .ok (.value (.tuple #[.int .u64 ((difL x y 0 : Nat) : Int), .int .u64 ((borL x y 0 : Nat) : Int)])) w := sub64 x y 0 (by omega) w

theorem add64_l0 (y c : Nat) (hc : c ≤ 1) (w : World) :
    (callFunc 132 #[.int .u64 0, .int .u64 (y : Int), .int .u64 (c : Int)]).run Tryz.prog w =
      .ok (.value (.tuple #[.int .u64 ((sumL 0 y c : Nat) : Int), .int .u64 ((carL 0 y c : Nat) : Int)])) w := add64 0 y c hc w
theorem add64_r0 (x c : Nat) (hc : c ≤ 1) (w : World) :
    (callFunc 132 #[.int .u64 (x : Int), .int .u64 0, .int .u64 (c : Int)]).run Tryz.prog w =
      .ok (.value (.tuple #[.int .u64 ((sumL x 0 c : Nat) : Int), .int .u64 ((carL x 0 c : Nat) : Int)])) w := add64 x 0 c hc w
theorem sub64_r0 (x b : Nat) (hb : b ≤ 1) (w : World) :
    (callFunc 157 #[.int .u64 (x : Int), .int .u64 0, .int .u64 (b : Int)]).run Tryz.prog w =
      .ok (.value (.tuple #[.int .u64 ((difL x 0 b : Nat) : Int), .int .u64 ((borL x 0 b : Nat) : Int)])) w := sub64 x 0 b hb w
theorem sumL_lt (x y c : Nat) : sumL x y c < LB := Nat.mod_lt _ LB_pos
theorem difL_lt (x y c : Nat) : difL x y c < LB := Nat.mod_lt _ LB_pos
theorem carL_le (x y c : Nat) (hx : x < LB) (hy : y < LB) (hc : c ≤ 1) : carL x y c ≤ 1 := by unfold carL; rw [LB_eq] at *; omega
theorem borL_le (x y c : Nat) : borL x y c ≤ 1 := by unfold borL; split <;> omega
theorem sum_eq (x y c : Nat) : sumL x y c + LB * carL x y c = x + y + c := Nat.mod_add_div _ _
theorem dif_eq (x y b : Nat) (hx : x < LB) (hy : y < LB) (hb : b ≤ 1) : difL x y b + y + b = x + LB * borL x y b := by
  unfold difL borL
  rw [LB_eq] at *
  split <;> omega

theorem ret_one {k : IntKind} {a b : Int} (h : a = b) : Ending.returned (.int k a) = .returned (.int k b) := by rw [h]
theorem ret_bool {a b : Bool} (h : a = b) : Ending.returned (.bool a) = .returned (.bool b) := by rw [h]
theorem ret_two {k l : IntKind} {a b c d : Int} (h : a = b) (h' : c = d) : Ending.returned (.tuple #[.int k a, .int l c]) = .returned (.tuple #[.int k b, .int l d]) := by rw [h, h']
theorem wrapN (a : Nat) (ha : a < LB) : IntKind.u64.wrap (a : Int) = (a : Int) := by rw [IntKind.wrap_u64]; rw [LB_eq] at ha; omega
theorem wrapM (a : Nat) : IntKind.u64.wrap (a : Int) = ((a % LB : Nat) : Int) := by rw [IntKind.wrap_u64, LB_eq]; omega
def mulHi (x y : Nat) : Nat := x * y / LB
def mulLo (x y : Nat) : Nat := x * y % LB
theorem mulLo_lt (x y : Nat) : mulLo x y < LB := Nat.mod_lt _ LB_pos
theorem mul_eq (x y : Nat) : mulLo x y + LB * mulHi x y = x * y := Nat.mod_add_div _ _
theorem mul64 (x y : Nat) (hx : x < LB) (hy : y < LB) (w : World) :
    Calls Tryz.prog 131 #[.int .u64 (x : Int), .int .u64 (y : Int)] w fun e w' => e = .returned (.tuple #[.int .u64 ((mulHi x y : Nat) : Int), .int .u64 ((mulLo x y : Nat) : Int)]) ∧ w = w' :=
  (Tryz.bits_Mul64 x y hx hy w).mono fun _ _ h => ⟨h.1, h.2.symm⟩
end Nt

end Go.Proofs.YtgimmmmpollkhaaGreat
