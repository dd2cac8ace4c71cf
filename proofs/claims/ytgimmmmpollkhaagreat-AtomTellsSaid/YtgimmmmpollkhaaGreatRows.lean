/-
  No cell of these rows narrows 'for every input' (looked for: loops, veiled, ifaces, maps, wideKeys, modest, calm, conditions, laid).
  DERIVED. THE GIVEN ROWS OF THIS SEAT. 5 by the template 'for every input the law returns true; each argument reads behind the call as it read before'; 0 by the template 'total and deterministic' (their statements: YtgimmmmpollkhaaGreatTotals.lean).
  GIVEN WITH THE SEED: the statements are not yours to turn. If you find one false, say at which input.
  Laid BY PROGRAM, IN A SANDBOX (cutbox-rows.mjs): the forced cells as the released guide's own fill.sh prints them over the translation c5a4edee40274fcd… (all of the seat's roots in one cut). By AI agents, Wed Nov 11 2026. No macro, syntax, notation, axiom, sorry.
-/
import Derived.Test.YtgimmmmpollkhaaGreatChecked
import GoSem.Claim
import GoSem.ClaimJoined
import GoSem.ClaimMapViews
import Derived.JoinedTies
import Derived.KernelRfl
namespace Go.Proofs.YtgimmmmpollkhaaGreat
/- THE CELL 'sum', in the pinned program and in every row, IS THE sha256 OF THE DUMP (.gsa) THAT YtgimmmmpollkhaaGreatProg.lean LOADS. Nothing in Lean hashes anything: it is a label: what it is worth is what the hold of that sum in a sandbox is worth. -/
noncomputable def Tryz.pinned : Pinned := { name := "ytgimmmmpollkhaagreat", sum := "c5a4edee40274fcd15bff5392f9ba74c95327f8b7cf0d84e15b42e110f05d54a", checked := Tryz.checked }
namespace Rows
def none {H : Type} : Left H := { results := [], args := [] }

/-- 'theodolitelaw8.LinearSums': WHATEVER THE INPUT: true; the input reads as it did. -/
def linearSumsSpec : ChangeSpec := { name := "linearSums", fn := fun _ => fun
  | [d1, d2, d3, d4, d5] => { results := [.lit (.bool true)], args := [d1, d2, d3, d4, d5] }
  | _ => none }
def linearSumsRow : OpenClaim := { program := "ytgimmmmpollkhaagreat", sum := "c5a4edee40274fcd15bff5392f9ba74c95327f8b7cf0d84e15b42e110f05d54a", func := "theodolite/theodolitelaw8.LinearSums", spec := "linearSums", inPlace := ["math/bits.Sub64", "math/bits.Add64"], unfollowed := true, recurses := true, named := ["math/bits.divideError", "math/bits.overflowError"], apart := false }
def LinearSumsSaid : Prop := linearSumsRow.holds Tryz.pinned (OpenSpec.ofChange linearSumsSpec)

/-- ITS FALSE NEIGHBOUR: 'it returns false'. Refute it at one input. -/
def linearSumsWrong : ChangeSpec := { name := "linearSums", fn := fun _ => fun
  | [d1, d2, d3, d4, d5] => { results := [.lit (.bool false)], args := [d1, d2, d3, d4, d5] }
  | _ => none }
def LinearSumsWrongFalsely : Prop := linearSumsRow.holds Tryz.pinned (OpenSpec.ofChange linearSumsWrong)

/-- 'theodolitelaw8.LinearRings': WHATEVER THE INPUT: true; the input reads as it did. -/
def linearRingsSpec : ChangeSpec := { name := "linearRings", fn := fun _ => fun
  | [d1, d2, d3] => { results := [.lit (.bool true)], args := [d1, d2, d3] }
  | _ => none }
def linearRingsRow : OpenClaim := { program := "ytgimmmmpollkhaagreat", sum := "c5a4edee40274fcd15bff5392f9ba74c95327f8b7cf0d84e15b42e110f05d54a", func := "theodolite/theodolitelaw8.LinearRings", spec := "linearRings", inPlace := ["math/bits.Sub64", "math/bits.Add64"], unfollowed := true, recurses := true, named := ["math/bits.divideError", "math/bits.overflowError"], apart := false }
def LinearRingsSaid : Prop := linearRingsRow.holds Tryz.pinned (OpenSpec.ofChange linearRingsSpec)

/-- ITS FALSE NEIGHBOUR: 'it returns false'. Refute it at one input. -/
def linearRingsWrong : ChangeSpec := { name := "linearRings", fn := fun _ => fun
  | [d1, d2, d3] => { results := [.lit (.bool false)], args := [d1, d2, d3] }
  | _ => none }
def LinearRingsWrongFalsely : Prop := linearRingsRow.holds Tryz.pinned (OpenSpec.ofChange linearRingsWrong)

/-- 'theodolitelaw9.AtomTells': WHATEVER THE INPUT: true; the input reads as it did. -/
def atomTellsSpec : ChangeSpec := { name := "atomTells", fn := fun _ => fun
  | [d1, d2, d3] => { results := [.lit (.bool true)], args := [d1, d2, d3] }
  | _ => none }
def atomTellsRow : OpenClaim := { program := "ytgimmmmpollkhaagreat", sum := "c5a4edee40274fcd15bff5392f9ba74c95327f8b7cf0d84e15b42e110f05d54a", func := "theodolite/theodolitelaw9.AtomTells", spec := "atomTells", inPlace := ["math/bits.Sub64", "math/bits.Add64"], unfollowed := true, recurses := true, named := ["math/bits.divideError", "math/bits.overflowError"], apart := false }
def AtomTellsSaid : Prop := atomTellsRow.holds Tryz.pinned (OpenSpec.ofChange atomTellsSpec)

/-- ITS FALSE NEIGHBOUR: 'it returns false'. Refute it at one input. -/
def atomTellsWrong : ChangeSpec := { name := "atomTells", fn := fun _ => fun
  | [d1, d2, d3] => { results := [.lit (.bool false)], args := [d1, d2, d3] }
  | _ => none }
def AtomTellsWrongFalsely : Prop := atomTellsRow.holds Tryz.pinned (OpenSpec.ofChange atomTellsWrong)

/-- 'theodolitelaw9.AtomForms': WHATEVER THE INPUT: true; the input reads as it did. -/
def atomFormsSpec : ChangeSpec := { name := "atomForms", fn := fun _ => fun
  | [d1, d2, d3] => { results := [.lit (.bool true)], args := [d1, d2, d3] }
  | _ => none }
def atomFormsRow : OpenClaim := { program := "ytgimmmmpollkhaagreat", sum := "c5a4edee40274fcd15bff5392f9ba74c95327f8b7cf0d84e15b42e110f05d54a", func := "theodolite/theodolitelaw9.AtomForms", spec := "atomForms", inPlace := ["math/bits.Sub64", "math/bits.Add64"], unfollowed := true, recurses := true, named := ["math/bits.divideError", "math/bits.overflowError"], apart := false }
def AtomFormsSaid : Prop := atomFormsRow.holds Tryz.pinned (OpenSpec.ofChange atomFormsSpec)

/-- ITS FALSE NEIGHBOUR: 'it returns false'. Refute it at one input. -/
def atomFormsWrong : ChangeSpec := { name := "atomForms", fn := fun _ => fun
  | [d1, d2, d3] => { results := [.lit (.bool false)], args := [d1, d2, d3] }
  | _ => none }
def AtomFormsWrongFalsely : Prop := atomFormsRow.holds Tryz.pinned (OpenSpec.ofChange atomFormsWrong)

/-- 'theodolitelaw9.AtomOpposites': WHATEVER THE INPUT: true; the input reads as it did. -/
def atomOppositesSpec : ChangeSpec := { name := "atomOpposites", fn := fun _ => fun
  | [d1, d2, d3] => { results := [.lit (.bool true)], args := [d1, d2, d3] }
  | _ => none }
def atomOppositesRow : OpenClaim := { program := "ytgimmmmpollkhaagreat", sum := "c5a4edee40274fcd15bff5392f9ba74c95327f8b7cf0d84e15b42e110f05d54a", func := "theodolite/theodolitelaw9.AtomOpposites", spec := "atomOpposites", inPlace := ["math/bits.Sub64", "math/bits.Add64"], unfollowed := true, recurses := true, named := ["math/bits.divideError", "math/bits.overflowError"], apart := false }
def AtomOppositesSaid : Prop := atomOppositesRow.holds Tryz.pinned (OpenSpec.ofChange atomOppositesSpec)

/-- ITS FALSE NEIGHBOUR: 'it returns false'. Refute it at one input. -/
def atomOppositesWrong : ChangeSpec := { name := "atomOpposites", fn := fun _ => fun
  | [d1, d2, d3] => { results := [.lit (.bool false)], args := [d1, d2, d3] }
  | _ => none }
def AtomOppositesWrongFalsely : Prop := atomOppositesRow.holds Tryz.pinned (OpenSpec.ofChange atomOppositesWrong)

/- THE SECOND FORM. 'bulk': how many values and letters a reading holds, each counted each time it is reached (what is shared counts as often as it is met; a slice's spare places count too). A statement '..UptoSaid' is the law's where the arguments, and the package variables that the reading takes, are together of bulk at most 1048576: NARROWER than '..Said'. Prove '..Said' where nothing that the law and all that it calls make is longer than what came in: it says more and counts as full. Else prove '..UptoSaid'. A law counts once. -/
mutual
def uptoBulk {H : Type} : DataW H → Nat
  | .lit (.string bytes) => bytes.length + 1
  | .lit _ => 1
  | .nil => 1
  | .ptr d => uptoBulk d + 1
  | .slice elems spare => uptoBulkAll elems + uptoBulkAll spare + 1
  | .agg parts => uptoBulkAll parts + 1
  | .iface _ d => uptoBulk d + 1
  | .map entries => uptoBulkEntries entries + 1
  | .held _ => 1
def uptoBulkAll {H : Type} : List (DataW H) → Nat
  | [] => 0
  | d :: r => uptoBulk d + uptoBulkAll r
def uptoBulkEntries {H : Type} : List (Lit × DataW H) → Nat
  | [] => 0
  | x :: r => uptoBulkEntry x + uptoBulkEntries r
def uptoBulkEntry {H : Type} : Lit × DataW H → Nat
  | (.string bytes, d) => bytes.length + uptoBulk d + 1
  | (_, d) => uptoBulk d + 1
 end
def uptoSmall : (H : Type) → List (DataW H) → Bool := fun _ ds => decide (uptoBulkAll ds ≤ 1048576)
def OpenSpec.upto (s : _root_.Go.ChangeSpec) : _root_.Go.OpenSpec := { _root_.Go.OpenSpec.ofChange s with cond := some uptoSmall }

/-- 'theodolitelaw8.LinearSums', WHERE WHAT IT READS IS OF BULK AT MOST 1048576: true; the input reads as it did. -/
def linearSumsUptoRow : OpenClaim := { program := "ytgimmmmpollkhaagreat", sum := "c5a4edee40274fcd15bff5392f9ba74c95327f8b7cf0d84e15b42e110f05d54a", func := "theodolite/theodolitelaw8.LinearSums", spec := "linearSums", inPlace := ["math/bits.Sub64", "math/bits.Add64"], unfollowed := true, recurses := true, named := ["math/bits.divideError", "math/bits.overflowError"], apart := false, narrowed := true }
def LinearSumsUptoSaid : Prop := linearSumsUptoRow.holds Tryz.pinned (OpenSpec.upto linearSumsSpec)

/-- 'theodolitelaw8.LinearRings', WHERE WHAT IT READS IS OF BULK AT MOST 1048576: true; the input reads as it did. -/
def linearRingsUptoRow : OpenClaim := { program := "ytgimmmmpollkhaagreat", sum := "c5a4edee40274fcd15bff5392f9ba74c95327f8b7cf0d84e15b42e110f05d54a", func := "theodolite/theodolitelaw8.LinearRings", spec := "linearRings", inPlace := ["math/bits.Sub64", "math/bits.Add64"], unfollowed := true, recurses := true, named := ["math/bits.divideError", "math/bits.overflowError"], apart := false, narrowed := true }
def LinearRingsUptoSaid : Prop := linearRingsUptoRow.holds Tryz.pinned (OpenSpec.upto linearRingsSpec)

/-- 'theodolitelaw9.AtomTells', WHERE WHAT IT READS IS OF BULK AT MOST 1048576: true; the input reads as it did. -/
def atomTellsUptoRow : OpenClaim := { program := "ytgimmmmpollkhaagreat", sum := "c5a4edee40274fcd15bff5392f9ba74c95327f8b7cf0d84e15b42e110f05d54a", func := "theodolite/theodolitelaw9.AtomTells", spec := "atomTells", inPlace := ["math/bits.Sub64", "math/bits.Add64"], unfollowed := true, recurses := true, named := ["math/bits.divideError", "math/bits.overflowError"], apart := false, narrowed := true }
def AtomTellsUptoSaid : Prop := atomTellsUptoRow.holds Tryz.pinned (OpenSpec.upto atomTellsSpec)

/-- 'theodolitelaw9.AtomForms', WHERE WHAT IT READS IS OF BULK AT MOST 1048576: true; the input reads as it did. -/
def atomFormsUptoRow : OpenClaim := { program := "ytgimmmmpollkhaagreat", sum := "c5a4edee40274fcd15bff5392f9ba74c95327f8b7cf0d84e15b42e110f05d54a", func := "theodolite/theodolitelaw9.AtomForms", spec := "atomForms", inPlace := ["math/bits.Sub64", "math/bits.Add64"], unfollowed := true, recurses := true, named := ["math/bits.divideError", "math/bits.overflowError"], apart := false, narrowed := true }
def AtomFormsUptoSaid : Prop := atomFormsUptoRow.holds Tryz.pinned (OpenSpec.upto atomFormsSpec)

/-- 'theodolitelaw9.AtomOpposites', WHERE WHAT IT READS IS OF BULK AT MOST 1048576: true; the input reads as it did. -/
def atomOppositesUptoRow : OpenClaim := { program := "ytgimmmmpollkhaagreat", sum := "c5a4edee40274fcd15bff5392f9ba74c95327f8b7cf0d84e15b42e110f05d54a", func := "theodolite/theodolitelaw9.AtomOpposites", spec := "atomOpposites", inPlace := ["math/bits.Sub64", "math/bits.Add64"], unfollowed := true, recurses := true, named := ["math/bits.divideError", "math/bits.overflowError"], apart := false, narrowed := true }
def AtomOppositesUptoSaid : Prop := atomOppositesUptoRow.holds Tryz.pinned (OpenSpec.upto atomOppositesSpec)

end Rows
end Go.Proofs.YtgimmmmpollkhaaGreat
