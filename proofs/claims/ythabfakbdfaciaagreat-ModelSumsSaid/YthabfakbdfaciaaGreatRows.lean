/-
  No cell of these rows narrows 'for every input' (looked for: loops, veiled, ifaces, maps, wideKeys, modest, calm, conditions, laid).
  DERIVED. THE GIVEN ROWS OF THIS SEAT. 4 by the template 'for every input the law returns true; each argument reads behind the call as it read before'; 0 by the template 'total and deterministic' (their statements: YthabfakbdfaciaaGreatTotals.lean).
  GIVEN WITH THE SEED: the statements are not yours to turn. If you find one false, say at which input.
  Laid BY PROGRAM, IN A SANDBOX (cutbox-rows.mjs): the forced cells as the released guide's own fill.sh prints them over the translation ab745890101219bc… (all of the seat's roots in one cut). By AI agents, Wed Nov 11 2026. No macro, syntax, notation, axiom, sorry.
-/
import Derived.Test.YthabfakbdfaciaaGreatChecked
import GoSem.Claim
import GoSem.ClaimJoined
import GoSem.ClaimMapViews
import Derived.JoinedTies
import Derived.KernelRfl
namespace Go.Proofs.YthabfakbdfaciaaGreat
/- THE CELL 'sum', in the pinned program and in every row, IS THE sha256 OF THE DUMP (.gsa) THAT YthabfakbdfaciaaGreatProg.lean LOADS. Nothing in Lean hashes anything: it is a label: what it is worth is what the hold of that sum in a sandbox is worth. -/
noncomputable def Tryz.pinned : Pinned := { name := "ythabfakbdfaciaagreat", sum := "ab745890101219bc3028cb5bc7d6bc3a8a2c486712dda2eee0b443e100f6f52c", checked := Tryz.checked }
namespace Rows
def none {H : Type} : Left H := { results := [], args := [] }

/-- 'theodolitelaw10.ModelTables': WHATEVER THE INPUT: true; the input reads as it did. -/
def modelTablesSpec : ChangeSpec := { name := "modelTables", fn := fun _ => fun
  | [d1, d2, d3, d4] => { results := [.lit (.bool true)], args := [d1, d2, d3, d4] }
  | _ => none }
def modelTablesRow : OpenClaim := { program := "ythabfakbdfaciaagreat", sum := "ab745890101219bc3028cb5bc7d6bc3a8a2c486712dda2eee0b443e100f6f52c", func := "theodolite/theodolitelaw10.ModelTables", spec := "modelTables", inPlace := ["math/bits.Add64", "math/bits.Sub64", "internal/bytealg.abigen_runtime_cmpstring"], unfollowed := true, recurses := true, named := ["math/bits.divideError", "math/bits.overflowError"], plainKeys := false, apart := false }
def ModelTablesSaid : Prop := modelTablesRow.holds Tryz.pinned (OpenSpec.ofChange modelTablesSpec)

/-- ITS FALSE NEIGHBOUR: 'it returns false'. Refute it at one input. -/
def modelTablesWrong : ChangeSpec := { name := "modelTables", fn := fun _ => fun
  | [d1, d2, d3, d4] => { results := [.lit (.bool false)], args := [d1, d2, d3, d4] }
  | _ => none }
def ModelTablesWrongFalsely : Prop := modelTablesRow.holds Tryz.pinned (OpenSpec.ofChange modelTablesWrong)

/-- 'theodolitelaw10.ModelLogic': WHATEVER THE INPUT: true; the input reads as it did. -/
def modelLogicSpec : ChangeSpec := { name := "modelLogic", fn := fun _ => fun
  | [d1, d2, d3, d4] => { results := [.lit (.bool true)], args := [d1, d2, d3, d4] }
  | _ => none }
def modelLogicRow : OpenClaim := { program := "ythabfakbdfaciaagreat", sum := "ab745890101219bc3028cb5bc7d6bc3a8a2c486712dda2eee0b443e100f6f52c", func := "theodolite/theodolitelaw10.ModelLogic", spec := "modelLogic", inPlace := ["math/bits.Add64", "math/bits.Sub64"], unfollowed := true, recurses := true, named := ["math/bits.divideError", "math/bits.overflowError"], plainKeys := false, apart := false }
def ModelLogicSaid : Prop := modelLogicRow.holds Tryz.pinned (OpenSpec.ofChange modelLogicSpec)

/-- ITS FALSE NEIGHBOUR: 'it returns false'. Refute it at one input. -/
def modelLogicWrong : ChangeSpec := { name := "modelLogic", fn := fun _ => fun
  | [d1, d2, d3, d4] => { results := [.lit (.bool false)], args := [d1, d2, d3, d4] }
  | _ => none }
def ModelLogicWrongFalsely : Prop := modelLogicRow.holds Tryz.pinned (OpenSpec.ofChange modelLogicWrong)

/-- 'theodolitelaw10.ModelTablesTell': WHATEVER THE INPUT: true; the input reads as it did. -/
def modelTablesTellSpec : ChangeSpec := { name := "modelTablesTell", fn := fun _ => fun
  | [d1, d2, d3] => { results := [.lit (.bool true)], args := [d1, d2, d3] }
  | _ => none }
def modelTablesTellRow : OpenClaim := { program := "ythabfakbdfaciaagreat", sum := "ab745890101219bc3028cb5bc7d6bc3a8a2c486712dda2eee0b443e100f6f52c", func := "theodolite/theodolitelaw10.ModelTablesTell", spec := "modelTablesTell", inPlace := ["math/bits.Add64", "math/bits.Sub64"], unfollowed := true, recurses := true, named := ["math/bits.divideError", "math/bits.overflowError"], plainKeys := false, apart := false }
def ModelTablesTellSaid : Prop := modelTablesTellRow.holds Tryz.pinned (OpenSpec.ofChange modelTablesTellSpec)

/-- ITS FALSE NEIGHBOUR: 'it returns false'. Refute it at one input. -/
def modelTablesTellWrong : ChangeSpec := { name := "modelTablesTell", fn := fun _ => fun
  | [d1, d2, d3] => { results := [.lit (.bool false)], args := [d1, d2, d3] }
  | _ => none }
def ModelTablesTellWrongFalsely : Prop := modelTablesTellRow.holds Tryz.pinned (OpenSpec.ofChange modelTablesTellWrong)

/-- 'theodolitelaw10.ModelSums': WHATEVER THE INPUT: true; the input reads as it did. -/
def modelSumsSpec : ChangeSpec := { name := "modelSums", fn := fun _ => fun
  | [d1, d2, d3, d4] => { results := [.lit (.bool true)], args := [d1, d2, d3, d4] }
  | _ => none }
def modelSumsRow : OpenClaim := { program := "ythabfakbdfaciaagreat", sum := "ab745890101219bc3028cb5bc7d6bc3a8a2c486712dda2eee0b443e100f6f52c", func := "theodolite/theodolitelaw10.ModelSums", spec := "modelSums", inPlace := ["math/bits.Add64", "math/bits.Sub64"], unfollowed := true, recurses := true, named := ["math/bits.divideError", "math/bits.overflowError"], plainKeys := false, apart := false }
def ModelSumsSaid : Prop := modelSumsRow.holds Tryz.pinned (OpenSpec.ofChange modelSumsSpec)

/-- ITS FALSE NEIGHBOUR: 'it returns false'. Refute it at one input. -/
def modelSumsWrong : ChangeSpec := { name := "modelSums", fn := fun _ => fun
  | [d1, d2, d3, d4] => { results := [.lit (.bool false)], args := [d1, d2, d3, d4] }
  | _ => none }
def ModelSumsWrongFalsely : Prop := modelSumsRow.holds Tryz.pinned (OpenSpec.ofChange modelSumsWrong)

/- THE SECOND FORM. 'bulk': how many values and letters a reading holds, each counted each time it is reached (what is shared counts as often as it is met; a slice's spare places count too). A statement '..UptoSaid' is the law's where the arguments, and the package variables that the reading takes, are together of bulk at most 1048576: NARROWER than '..Said'. Prove '..Said' where nothing that the law and all that it calls make is longer than what came in: it says more and counts as full. Else prove '..UptoSaid'. A law counts once. -/
mutual
def uptoBulk {H : Type} : DataW H → Nat
  | .lit (.string bytes) => bytes.length + 1
  | .lit _ => 1
  | .nil => 1
  | .ptr d => uptoBulk d + 1
  | .slice elems spare => uptoBulkAll elems + uptoBulkAll spare + 1
  | .agg parts => uptoBulkAll parts + 1
  | .iface _ d => uptoBulk d + 1
  | .map entries => uptoBulkEntries entries + 1
  | .held _ => 1
def uptoBulkAll {H : Type} : List (DataW H) → Nat
  | [] => 0
  | d :: r => uptoBulk d + uptoBulkAll r
def uptoBulkEntries {H : Type} : List (Lit × DataW H) → Nat
  | [] => 0
  | x :: r => uptoBulkEntry x + uptoBulkEntries r
def uptoBulkEntry {H : Type} : Lit × DataW H → Nat
  | (.string bytes, d) => bytes.length + uptoBulk d + 1
  | (_, d) => uptoBulk d + 1
 end
def uptoSmall : (H : Type) → List (DataW H) → Bool := fun _ ds => decide (uptoBulkAll ds ≤ 1048576)
def OpenSpec.upto (s : _root_.Go.ChangeSpec) : _root_.Go.OpenSpec := { _root_.Go.OpenSpec.ofChange s with cond := some uptoSmall }

/-- 'theodolitelaw10.ModelTables', WHERE WHAT IT READS IS OF BULK AT MOST 1048576: true; the input reads as it did. -/
def modelTablesUptoRow : OpenClaim := { program := "ythabfakbdfaciaagreat", sum := "ab745890101219bc3028cb5bc7d6bc3a8a2c486712dda2eee0b443e100f6f52c", func := "theodolite/theodolitelaw10.ModelTables", spec := "modelTables", inPlace := ["math/bits.Add64", "math/bits.Sub64", "internal/bytealg.abigen_runtime_cmpstring"], unfollowed := true, recurses := true, named := ["math/bits.divideError", "math/bits.overflowError"], plainKeys := false, apart := false, narrowed := true }
def ModelTablesUptoSaid : Prop := modelTablesUptoRow.holds Tryz.pinned (OpenSpec.upto modelTablesSpec)

/-- 'theodolitelaw10.ModelLogic', WHERE WHAT IT READS IS OF BULK AT MOST 1048576: true; the input reads as it did. -/
def modelLogicUptoRow : OpenClaim := { program := "ythabfakbdfaciaagreat", sum := "ab745890101219bc3028cb5bc7d6bc3a8a2c486712dda2eee0b443e100f6f52c", func := "theodolite/theodolitelaw10.ModelLogic", spec := "modelLogic", inPlace := ["math/bits.Add64", "math/bits.Sub64"], unfollowed := true, recurses := true, named := ["math/bits.divideError", "math/bits.overflowError"], plainKeys := false, apart := false, narrowed := true }
def ModelLogicUptoSaid : Prop := modelLogicUptoRow.holds Tryz.pinned (OpenSpec.upto modelLogicSpec)

/-- 'theodolitelaw10.ModelTablesTell', WHERE WHAT IT READS IS OF BULK AT MOST 1048576: true; the input reads as it did. -/
def modelTablesTellUptoRow : OpenClaim := { program := "ythabfakbdfaciaagreat", sum := "ab745890101219bc3028cb5bc7d6bc3a8a2c486712dda2eee0b443e100f6f52c", func := "theodolite/theodolitelaw10.ModelTablesTell", spec := "modelTablesTell", inPlace := ["math/bits.Add64", "math/bits.Sub64"], unfollowed := true, recurses := true, named := ["math/bits.divideError", "math/bits.overflowError"], plainKeys := false, apart := false, narrowed := true }
def ModelTablesTellUptoSaid : Prop := modelTablesTellUptoRow.holds Tryz.pinned (OpenSpec.upto modelTablesTellSpec)

/-- 'theodolitelaw10.ModelSums', WHERE WHAT IT READS IS OF BULK AT MOST 1048576: true; the input reads as it did. -/
def modelSumsUptoRow : OpenClaim := { program := "ythabfakbdfaciaagreat", sum := "ab745890101219bc3028cb5bc7d6bc3a8a2c486712dda2eee0b443e100f6f52c", func := "theodolite/theodolitelaw10.ModelSums", spec := "modelSums", inPlace := ["math/bits.Add64", "math/bits.Sub64"], unfollowed := true, recurses := true, named := ["math/bits.divideError", "math/bits.overflowError"], plainKeys := false, apart := false, narrowed := true }
def ModelSumsUptoSaid : Prop := modelSumsUptoRow.holds Tryz.pinned (OpenSpec.upto modelSumsSpec)

end Rows
end Go.Proofs.YthabfakbdfaciaaGreat
