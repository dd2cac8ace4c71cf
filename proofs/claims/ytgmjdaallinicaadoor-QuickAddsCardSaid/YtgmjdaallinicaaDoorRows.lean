/-
  NARROWER THAN 'FOR EVERY INPUT', by the rows' own cells (each row's printed sentence says how): QuickTells: laid · QuickHolds: laid · QuickSure: laid · QuickAdds: laid · QuickOrder: laid · QuickWhole: laid.
  DERIVED. THE GIVEN ROWS OF THIS SEAT. 6 by the template 'for every input the law returns true; each argument reads behind the call as it read before'; 0 by the template 'total and deterministic' (their statements: YtgmjdaallinicaaDoorTotals.lean).
  GIVEN WITH THE SEED: the statements are not yours to turn. If you find one false, say at which input.
  Laid BY PROGRAM, IN A SANDBOX (cutbox-rows.mjs): the forced cells as the released guide's own fill.sh prints them over the translation 7c07372c1a18b5e6… (all of the seat's roots in one cut). By AI agents, Wed Nov 11 2026. No macro, syntax, notation, axiom, sorry.
-/
import Derived.Test.YtgmjdaallinicaaDoorChecked
import GoSem.Claim
import GoSem.ClaimJoined
import GoSem.ClaimMapViews
import Derived.JoinedTies
import Derived.KernelRfl
namespace Go.Proofs.YtgmjdaallinicaaDoor
/- THE CELL 'sum', in the pinned program and in every row, IS THE sha256 OF THE DUMP (.gsa) THAT YtgmjdaallinicaaDoorProg.lean LOADS. Nothing in Lean hashes anything: it is a label: what it is worth is what the hold of that sum in a sandbox is worth. -/
noncomputable def Tryd.pinned : Pinned := { name := "ytgmjdaallinicaadoor", sum := "7c07372c1a18b5e6f4206d81ebe6e3dbca7b9a54e840f6741987d6fd946bb9a8", checked := Tryd.checked }
namespace Rows
def none {H : Type} : Left H := { results := [], args := [] }

/- WHAT THE LISTED PACKAGE-LEVEL VARIABLES READ AS WHEN THE CALL BEGINS. Each datum BY PROGRAM (the guide's laid-datum.mjs) off the statement by which the dump's own 'gosem.cut.vars' lays the variable. In a bare row this is a premise. The card (YtgmjdaallinicaaDoorCards.lean) ties it to the program's text. -/
def laid_math_bits_deBruijn64tab {H : Type} : DataW H := .agg [.lit (.int .u8 0), .lit (.int .u8 1), .lit (.int .u8 56), .lit (.int .u8 2), .lit (.int .u8 57), .lit (.int .u8 49), .lit (.int .u8 28), .lit (.int .u8 3), .lit (.int .u8 61), .lit (.int .u8 58), .lit (.int .u8 42), .lit (.int .u8 50), .lit (.int .u8 38), .lit (.int .u8 29), .lit (.int .u8 17), .lit (.int .u8 4), .lit (.int .u8 62), .lit (.int .u8 47), .lit (.int .u8 59), .lit (.int .u8 36), .lit (.int .u8 45), .lit (.int .u8 43), .lit (.int .u8 51), .lit (.int .u8 22), .lit (.int .u8 53), .lit (.int .u8 39), .lit (.int .u8 33), .lit (.int .u8 30), .lit (.int .u8 24), .lit (.int .u8 18), .lit (.int .u8 12), .lit (.int .u8 5), .lit (.int .u8 63), .lit (.int .u8 55), .lit (.int .u8 48), .lit (.int .u8 27), .lit (.int .u8 60), .lit (.int .u8 41), .lit (.int .u8 37), .lit (.int .u8 16), .lit (.int .u8 46), .lit (.int .u8 35), .lit (.int .u8 44), .lit (.int .u8 21), .lit (.int .u8 52), .lit (.int .u8 32), .lit (.int .u8 23), .lit (.int .u8 11), .lit (.int .u8 54), .lit (.int .u8 26), .lit (.int .u8 40), .lit (.int .u8 15), .lit (.int .u8 34), .lit (.int .u8 20), .lit (.int .u8 31), .lit (.int .u8 10), .lit (.int .u8 25), .lit (.int .u8 14), .lit (.int .u8 19), .lit (.int .u8 9), .lit (.int .u8 13), .lit (.int .u8 8), .lit (.int .u8 7), .lit (.int .u8 6)]

/-- 'theodolitelaw5.QuickTells': WHATEVER THE INPUT: true; the input reads as it did. -/
def quickTellsSpec : ChangeSpec := { name := "quickTells", fn := fun _ => fun
  | [d1, d2] => { results := [.lit (.bool true)], args := [d1, d2] }
  | _ => none }
def quickTellsRow : OpenClaim := { program := "ytgmjdaallinicaadoor", sum := "7c07372c1a18b5e6f4206d81ebe6e3dbca7b9a54e840f6741987d6fd946bb9a8", func := "theodolite/theodolitelaw5.QuickTells", spec := "quickTells", inPlace := ["math/bits.Sub64", "math/bits.Add64", "math.Float64bits", "math.Float64frombits"], named := ["math/bits.divideError", "math/bits.overflowError", "math/bits.deBruijn64tab"], apart := false, laid := [("math/bits.deBruijn64tab", laid_math_bits_deBruijn64tab)] }
def QuickTellsSaid : Prop := quickTellsRow.holds Tryd.pinned (OpenSpec.ofChange quickTellsSpec)

/-- ITS FALSE NEIGHBOUR: 'it returns false'. Refute it at one input. -/
def quickTellsWrong : ChangeSpec := { name := "quickTells", fn := fun _ => fun
  | [d1, d2] => { results := [.lit (.bool false)], args := [d1, d2] }
  | _ => none }
def QuickTellsWrongFalsely : Prop := quickTellsRow.holds Tryd.pinned (OpenSpec.ofChange quickTellsWrong)

/-- 'theodolitelaw5.QuickHolds': WHATEVER THE INPUT: true; the input reads as it did. -/
def quickHoldsSpec : ChangeSpec := { name := "quickHolds", fn := fun _ => fun
  | [d] => { results := [.lit (.bool true)], args := [d] }
  | _ => none }
def quickHoldsRow : OpenClaim := { program := "ytgmjdaallinicaadoor", sum := "7c07372c1a18b5e6f4206d81ebe6e3dbca7b9a54e840f6741987d6fd946bb9a8", func := "theodolite/theodolitelaw5.QuickHolds", spec := "quickHolds", inPlace := ["math/bits.Sub64", "math/bits.Add64", "math.Float64bits", "math.Float64frombits"], named := ["math/bits.divideError", "math/bits.overflowError", "math/bits.deBruijn64tab"], apart := false, laid := [("math/bits.deBruijn64tab", laid_math_bits_deBruijn64tab)] }
def QuickHoldsSaid : Prop := quickHoldsRow.holds Tryd.pinned (OpenSpec.ofChange quickHoldsSpec)

/-- ITS FALSE NEIGHBOUR: 'it returns false'. Refute it at one input. -/
def quickHoldsWrong : ChangeSpec := { name := "quickHolds", fn := fun _ => fun
  | [d] => { results := [.lit (.bool false)], args := [d] }
  | _ => none }
def QuickHoldsWrongFalsely : Prop := quickHoldsRow.holds Tryd.pinned (OpenSpec.ofChange quickHoldsWrong)

/-- 'theodolitelaw5.QuickSure': WHATEVER THE INPUT: true; the input reads as it did. -/
def quickSureSpec : ChangeSpec := { name := "quickSure", fn := fun _ => fun
  | [d1, d2] => { results := [.lit (.bool true)], args := [d1, d2] }
  | _ => none }
def quickSureRow : OpenClaim := { program := "ytgmjdaallinicaadoor", sum := "7c07372c1a18b5e6f4206d81ebe6e3dbca7b9a54e840f6741987d6fd946bb9a8", func := "theodolite/theodolitelaw5.QuickSure", spec := "quickSure", inPlace := ["math/bits.Sub64", "math/bits.Add64", "math.Float64bits", "math.Float64frombits"], named := ["math/bits.divideError", "math/bits.overflowError", "math/bits.deBruijn64tab"], apart := false, laid := [("math/bits.deBruijn64tab", laid_math_bits_deBruijn64tab)] }
def QuickSureSaid : Prop := quickSureRow.holds Tryd.pinned (OpenSpec.ofChange quickSureSpec)

/-- ITS FALSE NEIGHBOUR: 'it returns false'. Refute it at one input. -/
def quickSureWrong : ChangeSpec := { name := "quickSure", fn := fun _ => fun
  | [d1, d2] => { results := [.lit (.bool false)], args := [d1, d2] }
  | _ => none }
def QuickSureWrongFalsely : Prop := quickSureRow.holds Tryd.pinned (OpenSpec.ofChange quickSureWrong)

/-- 'theodolitelaw5.QuickAdds': WHATEVER THE INPUT: true; the input reads as it did. -/
def quickAddsSpec : ChangeSpec := { name := "quickAdds", fn := fun _ => fun
  | [d1, d2, d3, d4] => { results := [.lit (.bool true)], args := [d1, d2, d3, d4] }
  | _ => none }
def quickAddsRow : OpenClaim := { program := "ytgmjdaallinicaadoor", sum := "7c07372c1a18b5e6f4206d81ebe6e3dbca7b9a54e840f6741987d6fd946bb9a8", func := "theodolite/theodolitelaw5.QuickAdds", spec := "quickAdds", inPlace := ["math.Float64bits", "math.Float64frombits", "math/bits.Sub64", "math/bits.Add64"], named := ["math/bits.divideError", "math/bits.overflowError", "math/bits.deBruijn64tab"], apart := false, laid := [("math/bits.deBruijn64tab", laid_math_bits_deBruijn64tab)] }
def QuickAddsSaid : Prop := quickAddsRow.holds Tryd.pinned (OpenSpec.ofChange quickAddsSpec)

/-- ITS FALSE NEIGHBOUR: 'it returns false'. Refute it at one input. -/
def quickAddsWrong : ChangeSpec := { name := "quickAdds", fn := fun _ => fun
  | [d1, d2, d3, d4] => { results := [.lit (.bool false)], args := [d1, d2, d3, d4] }
  | _ => none }
def QuickAddsWrongFalsely : Prop := quickAddsRow.holds Tryd.pinned (OpenSpec.ofChange quickAddsWrong)

/-- 'theodolitelaw5.QuickOrder': WHATEVER THE INPUT: true; the input reads as it did. -/
def quickOrderSpec : ChangeSpec := { name := "quickOrder", fn := fun _ => fun
  | [d1, d2] => { results := [.lit (.bool true)], args := [d1, d2] }
  | _ => none }
def quickOrderRow : OpenClaim := { program := "ytgmjdaallinicaadoor", sum := "7c07372c1a18b5e6f4206d81ebe6e3dbca7b9a54e840f6741987d6fd946bb9a8", func := "theodolite/theodolitelaw5.QuickOrder", spec := "quickOrder", inPlace := ["math/bits.Sub64", "math/bits.Add64", "math.Float64bits", "math.Float64frombits"], named := ["math/bits.divideError", "math/bits.overflowError", "math/bits.deBruijn64tab"], apart := false, laid := [("math/bits.deBruijn64tab", laid_math_bits_deBruijn64tab)] }
def QuickOrderSaid : Prop := quickOrderRow.holds Tryd.pinned (OpenSpec.ofChange quickOrderSpec)

/-- ITS FALSE NEIGHBOUR: 'it returns false'. Refute it at one input. -/
def quickOrderWrong : ChangeSpec := { name := "quickOrder", fn := fun _ => fun
  | [d1, d2] => { results := [.lit (.bool false)], args := [d1, d2] }
  | _ => none }
def QuickOrderWrongFalsely : Prop := quickOrderRow.holds Tryd.pinned (OpenSpec.ofChange quickOrderWrong)

/-- 'theodolitelaw5.QuickWhole': WHATEVER THE INPUT: true; the input reads as it did. -/
def quickWholeSpec : ChangeSpec := { name := "quickWhole", fn := fun _ => fun
  | [d1, d2] => { results := [.lit (.bool true)], args := [d1, d2] }
  | _ => none }
def quickWholeRow : OpenClaim := { program := "ytgmjdaallinicaadoor", sum := "7c07372c1a18b5e6f4206d81ebe6e3dbca7b9a54e840f6741987d6fd946bb9a8", func := "theodolite/theodolitelaw5.QuickWhole", spec := "quickWhole", inPlace := ["math/bits.Sub64", "math/bits.Add64", "math.Float64bits", "math.Float64frombits"], named := ["math/bits.divideError", "math/bits.overflowError", "math/bits.deBruijn64tab"], apart := false, laid := [("math/bits.deBruijn64tab", laid_math_bits_deBruijn64tab)] }
def QuickWholeSaid : Prop := quickWholeRow.holds Tryd.pinned (OpenSpec.ofChange quickWholeSpec)

/-- ITS FALSE NEIGHBOUR: 'it returns false'. Refute it at one input. -/
def quickWholeWrong : ChangeSpec := { name := "quickWhole", fn := fun _ => fun
  | [d1, d2] => { results := [.lit (.bool false)], args := [d1, d2] }
  | _ => none }
def QuickWholeWrongFalsely : Prop := quickWholeRow.holds Tryd.pinned (OpenSpec.ofChange quickWholeWrong)

/- THE SECOND FORM. 'bulk': how many values and letters a reading holds, each counted each time it is reached (what is shared counts as often as it is met; a slice's spare places count too). A statement '..UptoSaid' is the law's where the arguments, and the package variables that the reading takes, are together of bulk at most 1048576: NARROWER than '..Said'. Prove '..Said' where nothing that the law and all that it calls make is longer than what came in: it says more and counts as full. Else prove '..UptoSaid'. A law counts once. -/
mutual
def uptoBulk {H : Type} : DataW H → Nat
  | .lit (.string bytes) => bytes.length + 1
  | .lit _ => 1
  | .nil => 1
  | .ptr d => uptoBulk d + 1
  | .slice elems spare => uptoBulkAll elems + uptoBulkAll spare + 1
  | .agg parts => uptoBulkAll parts + 1
  | .iface _ d => uptoBulk d + 1
  | .map entries => uptoBulkEntries entries + 1
  | .held _ => 1
def uptoBulkAll {H : Type} : List (DataW H) → Nat
  | [] => 0
  | d :: r => uptoBulk d + uptoBulkAll r
def uptoBulkEntries {H : Type} : List (Lit × DataW H) → Nat
  | [] => 0
  | x :: r => uptoBulkEntry x + uptoBulkEntries r
def uptoBulkEntry {H : Type} : Lit × DataW H → Nat
  | (.string bytes, d) => bytes.length + uptoBulk d + 1
  | (_, d) => uptoBulk d + 1
 end
def uptoSmall : (H : Type) → List (DataW H) → Bool := fun _ ds => decide (uptoBulkAll ds ≤ 1048576)
def OpenSpec.upto (s : _root_.Go.ChangeSpec) : _root_.Go.OpenSpec := { _root_.Go.OpenSpec.ofChange s with cond := some uptoSmall }

/-- 'theodolitelaw5.QuickTells', WHERE WHAT IT READS IS OF BULK AT MOST 1048576: true; the input reads as it did. -/
def quickTellsUptoRow : OpenClaim := { program := "ytgmjdaallinicaadoor", sum := "7c07372c1a18b5e6f4206d81ebe6e3dbca7b9a54e840f6741987d6fd946bb9a8", func := "theodolite/theodolitelaw5.QuickTells", spec := "quickTells", inPlace := ["math/bits.Sub64", "math/bits.Add64", "math.Float64bits", "math.Float64frombits"], named := ["math/bits.divideError", "math/bits.overflowError", "math/bits.deBruijn64tab"], apart := false, laid := [("math/bits.deBruijn64tab", laid_math_bits_deBruijn64tab)], narrowed := true }
def QuickTellsUptoSaid : Prop := quickTellsUptoRow.holds Tryd.pinned (OpenSpec.upto quickTellsSpec)

/-- 'theodolitelaw5.QuickHolds', WHERE WHAT IT READS IS OF BULK AT MOST 1048576: true; the input reads as it did. -/
def quickHoldsUptoRow : OpenClaim := { program := "ytgmjdaallinicaadoor", sum := "7c07372c1a18b5e6f4206d81ebe6e3dbca7b9a54e840f6741987d6fd946bb9a8", func := "theodolite/theodolitelaw5.QuickHolds", spec := "quickHolds", inPlace := ["math/bits.Sub64", "math/bits.Add64", "math.Float64bits", "math.Float64frombits"], named := ["math/bits.divideError", "math/bits.overflowError", "math/bits.deBruijn64tab"], apart := false, laid := [("math/bits.deBruijn64tab", laid_math_bits_deBruijn64tab)], narrowed := true }
def QuickHoldsUptoSaid : Prop := quickHoldsUptoRow.holds Tryd.pinned (OpenSpec.upto quickHoldsSpec)

/-- 'theodolitelaw5.QuickSure', WHERE WHAT IT READS IS OF BULK AT MOST 1048576: true; the input reads as it did. -/
def quickSureUptoRow : OpenClaim := { program := "ytgmjdaallinicaadoor", sum := "7c07372c1a18b5e6f4206d81ebe6e3dbca7b9a54e840f6741987d6fd946bb9a8", func := "theodolite/theodolitelaw5.QuickSure", spec := "quickSure", inPlace := ["math/bits.Sub64", "math/bits.Add64", "math.Float64bits", "math.Float64frombits"], named := ["math/bits.divideError", "math/bits.overflowError", "math/bits.deBruijn64tab"], apart := false, laid := [("math/bits.deBruijn64tab", laid_math_bits_deBruijn64tab)], narrowed := true }
def QuickSureUptoSaid : Prop := quickSureUptoRow.holds Tryd.pinned (OpenSpec.upto quickSureSpec)

/-- 'theodolitelaw5.QuickAdds', WHERE WHAT IT READS IS OF BULK AT MOST 1048576: true; the input reads as it did. -/
def quickAddsUptoRow : OpenClaim := { program := "ytgmjdaallinicaadoor", sum := "7c07372c1a18b5e6f4206d81ebe6e3dbca7b9a54e840f6741987d6fd946bb9a8", func := "theodolite/theodolitelaw5.QuickAdds", spec := "quickAdds", inPlace := ["math.Float64bits", "math.Float64frombits", "math/bits.Sub64", "math/bits.Add64"], named := ["math/bits.divideError", "math/bits.overflowError", "math/bits.deBruijn64tab"], apart := false, laid := [("math/bits.deBruijn64tab", laid_math_bits_deBruijn64tab)], narrowed := true }
def QuickAddsUptoSaid : Prop := quickAddsUptoRow.holds Tryd.pinned (OpenSpec.upto quickAddsSpec)

/-- 'theodolitelaw5.QuickOrder', WHERE WHAT IT READS IS OF BULK AT MOST 1048576: true; the input reads as it did. -/
def quickOrderUptoRow : OpenClaim := { program := "ytgmjdaallinicaadoor", sum := "7c07372c1a18b5e6f4206d81ebe6e3dbca7b9a54e840f6741987d6fd946bb9a8", func := "theodolite/theodolitelaw5.QuickOrder", spec := "quickOrder", inPlace := ["math/bits.Sub64", "math/bits.Add64", "math.Float64bits", "math.Float64frombits"], named := ["math/bits.divideError", "math/bits.overflowError", "math/bits.deBruijn64tab"], apart := false, laid := [("math/bits.deBruijn64tab", laid_math_bits_deBruijn64tab)], narrowed := true }
def QuickOrderUptoSaid : Prop := quickOrderUptoRow.holds Tryd.pinned (OpenSpec.upto quickOrderSpec)

/-- 'theodolitelaw5.QuickWhole', WHERE WHAT IT READS IS OF BULK AT MOST 1048576: true; the input reads as it did. -/
def quickWholeUptoRow : OpenClaim := { program := "ytgmjdaallinicaadoor", sum := "7c07372c1a18b5e6f4206d81ebe6e3dbca7b9a54e840f6741987d6fd946bb9a8", func := "theodolite/theodolitelaw5.QuickWhole", spec := "quickWhole", inPlace := ["math/bits.Sub64", "math/bits.Add64", "math.Float64bits", "math.Float64frombits"], named := ["math/bits.divideError", "math/bits.overflowError", "math/bits.deBruijn64tab"], apart := false, laid := [("math/bits.deBruijn64tab", laid_math_bits_deBruijn64tab)], narrowed := true }
def QuickWholeUptoSaid : Prop := quickWholeUptoRow.holds Tryd.pinned (OpenSpec.upto quickWholeSpec)

end Rows
end Go.Proofs.YtgmjdaallinicaaDoor
