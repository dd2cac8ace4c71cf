/-
  No cell of these rows narrows 'for every input' (looked for: loops, veiled, ifaces, maps, wideKeys, modest, calm, conditions, laid).
  DERIVED. THE GIVEN ROWS OF THIS SEAT. 4 by the template 'for every input the law returns true; each argument reads behind the call as it read before'; 0 by the template 'total and deterministic' (their statements: YtlcgdiciiibeeaaTotals.lean).
  GIVEN WITH THE SEED: the statements are not yours to turn. If you find one false, say at which input.
  Laid BY PROGRAM, IN A SANDBOX (cutbox-rows.mjs): the forced cells as the released guide's own fill.sh prints them over the translation 4b675b41d8ace6db… (all of the seat's roots in one cut). By AI agents, Wed Nov 11 2026. No macro, syntax, notation, axiom, sorry.
-/
import Derived.Test.YtlcgdiciiibeeaaChecked
import GoSem.Claim
import GoSem.ClaimJoined
import GoSem.ClaimMapViews
import Derived.JoinedTies
import Derived.KernelRfl
namespace Go.Proofs.Ytlcgdiciiibeeaa
/- THE CELL 'sum', in the pinned program and in every row, IS THE sha256 OF THE DUMP (.gsa) THAT YtlcgdiciiibeeaaProg.lean LOADS. Nothing in Lean hashes anything: it is a label: what it is worth is what the hold of that sum in a sandbox is worth. -/
noncomputable def Try.pinned : Pinned := { name := "ytlcgdiciiibeeaa", sum := "4b675b41d8ace6db54cae07b4ab451085a04d1a24518444c70ae4ae0a4d35077", checked := Try.checked }
namespace Rows
def none {H : Type} : Left H := { results := [], args := [] }

/-- 'theodolitelaw6.SortsActs': WHATEVER THE INPUT: true; the input reads as it did. -/
def sortsActsSpec : ChangeSpec := { name := "sortsActs", fn := fun _ => fun
  | [d1, d2] => { results := [.lit (.bool true)], args := [d1, d2] }
  | _ => none }
def sortsActsRow : OpenClaim := { program := "ytlcgdiciiibeeaa", sum := "4b675b41d8ace6db54cae07b4ab451085a04d1a24518444c70ae4ae0a4d35077", func := "theodolite/theodolitelaw6.SortsActs", spec := "sortsActs", inPlace := ["internal/bytealg.abigen_runtime_cmpstring"], unfollowed := true, recurses := true, apart := false }
def SortsActsSaid : Prop := sortsActsRow.holds Try.pinned (OpenSpec.ofChange sortsActsSpec)

/-- ITS FALSE NEIGHBOUR: 'it returns false'. Refute it at one input. -/
def sortsActsWrong : ChangeSpec := { name := "sortsActs", fn := fun _ => fun
  | [d1, d2] => { results := [.lit (.bool false)], args := [d1, d2] }
  | _ => none }
def SortsActsWrongFalsely : Prop := sortsActsRow.holds Try.pinned (OpenSpec.ofChange sortsActsWrong)

/-- 'theodolitelaw6.SortsLevels': WHATEVER THE INPUT: true; the input reads as it did. -/
def sortsLevelsSpec : ChangeSpec := { name := "sortsLevels", fn := fun _ => fun
  | [d1, d2] => { results := [.lit (.bool true)], args := [d1, d2] }
  | _ => none }
def sortsLevelsRow : OpenClaim := { program := "ytlcgdiciiibeeaa", sum := "4b675b41d8ace6db54cae07b4ab451085a04d1a24518444c70ae4ae0a4d35077", func := "theodolite/theodolitelaw6.SortsLevels", spec := "sortsLevels", inPlace := ["internal/bytealg.abigen_runtime_cmpstring"], unfollowed := true, recurses := true, apart := false }
def SortsLevelsSaid : Prop := sortsLevelsRow.holds Try.pinned (OpenSpec.ofChange sortsLevelsSpec)

/-- ITS FALSE NEIGHBOUR: 'it returns false'. Refute it at one input. -/
def sortsLevelsWrong : ChangeSpec := { name := "sortsLevels", fn := fun _ => fun
  | [d1, d2] => { results := [.lit (.bool false)], args := [d1, d2] }
  | _ => none }
def SortsLevelsWrongFalsely : Prop := sortsLevelsRow.holds Try.pinned (OpenSpec.ofChange sortsLevelsWrong)

/-- 'theodolitelaw6.SortsNames': WHATEVER THE INPUT: true; the input reads as it did. -/
def sortsNamesSpec : ChangeSpec := { name := "sortsNames", fn := fun _ => fun
  | [d1, d2] => { results := [.lit (.bool true)], args := [d1, d2] }
  | _ => none }
def sortsNamesRow : OpenClaim := { program := "ytlcgdiciiibeeaa", sum := "4b675b41d8ace6db54cae07b4ab451085a04d1a24518444c70ae4ae0a4d35077", func := "theodolite/theodolitelaw6.SortsNames", spec := "sortsNames", inPlace := ["internal/bytealg.abigen_runtime_cmpstring"], unfollowed := true, recurses := true, apart := false }
def SortsNamesSaid : Prop := sortsNamesRow.holds Try.pinned (OpenSpec.ofChange sortsNamesSpec)

/-- ITS FALSE NEIGHBOUR: 'it returns false'. Refute it at one input. -/
def sortsNamesWrong : ChangeSpec := { name := "sortsNames", fn := fun _ => fun
  | [d1, d2] => { results := [.lit (.bool false)], args := [d1, d2] }
  | _ => none }
def SortsNamesWrongFalsely : Prop := sortsNamesRow.holds Try.pinned (OpenSpec.ofChange sortsNamesWrong)

/-- 'theodolitelaw6.SortsFuns': WHATEVER THE INPUT: true; the input reads as it did. -/
def sortsFunsSpec : ChangeSpec := { name := "sortsFuns", fn := fun _ => fun
  | [d] => { results := [.lit (.bool true)], args := [d] }
  | _ => none }
def sortsFunsRow : OpenClaim := { program := "ytlcgdiciiibeeaa", sum := "4b675b41d8ace6db54cae07b4ab451085a04d1a24518444c70ae4ae0a4d35077", func := "theodolite/theodolitelaw6.SortsFuns", spec := "sortsFuns", inPlace := ["internal/bytealg.abigen_runtime_cmpstring"], unfollowed := true, recurses := true, apart := false }
def SortsFunsSaid : Prop := sortsFunsRow.holds Try.pinned (OpenSpec.ofChange sortsFunsSpec)

/-- ITS FALSE NEIGHBOUR: 'it returns false'. Refute it at one input. -/
def sortsFunsWrong : ChangeSpec := { name := "sortsFuns", fn := fun _ => fun
  | [d] => { results := [.lit (.bool false)], args := [d] }
  | _ => none }
def SortsFunsWrongFalsely : Prop := sortsFunsRow.holds Try.pinned (OpenSpec.ofChange sortsFunsWrong)

/- THE SECOND FORM. 'bulk': how many values and letters a reading holds, each counted each time it is reached (what is shared counts as often as it is met; a slice's spare places count too). A statement '..UptoSaid' is the law's where the arguments, and the package variables that the reading takes, are together of bulk at most 1048576: NARROWER than '..Said'. Prove '..Said' where nothing that the law and all that it calls make is longer than what came in: it says more and counts as full. Else prove '..UptoSaid'. A law counts once. -/
mutual
def uptoBulk {H : Type} : DataW H → Nat
  | .lit (.string bytes) => bytes.length + 1
  | .lit _ => 1
  | .nil => 1
  | .ptr d => uptoBulk d + 1
  | .slice elems spare => uptoBulkAll elems + uptoBulkAll spare + 1
  | .agg parts => uptoBulkAll parts + 1
  | .iface _ d => uptoBulk d + 1
  | .map entries => uptoBulkEntries entries + 1
  | .held _ => 1
def uptoBulkAll {H : Type} : List (DataW H) → Nat
  | [] => 0
  | d :: r => uptoBulk d + uptoBulkAll r
def uptoBulkEntries {H : Type} : List (Lit × DataW H) → Nat
  | [] => 0
  | x :: r => uptoBulkEntry x + uptoBulkEntries r
def uptoBulkEntry {H : Type} : Lit × DataW H → Nat
  | (.string bytes, d) => bytes.length + uptoBulk d + 1
  | (_, d) => uptoBulk d + 1
 end
def uptoSmall : (H : Type) → List (DataW H) → Bool := fun _ ds => decide (uptoBulkAll ds ≤ 1048576)
def OpenSpec.upto (s : _root_.Go.ChangeSpec) : _root_.Go.OpenSpec := { _root_.Go.OpenSpec.ofChange s with cond := some uptoSmall }

/-- 'theodolitelaw6.SortsActs', WHERE WHAT IT READS IS OF BULK AT MOST 1048576: true; the input reads as it did. -/
def sortsActsUptoRow : OpenClaim := { program := "ytlcgdiciiibeeaa", sum := "4b675b41d8ace6db54cae07b4ab451085a04d1a24518444c70ae4ae0a4d35077", func := "theodolite/theodolitelaw6.SortsActs", spec := "sortsActs", inPlace := ["internal/bytealg.abigen_runtime_cmpstring"], unfollowed := true, recurses := true, apart := false, narrowed := true }
def SortsActsUptoSaid : Prop := sortsActsUptoRow.holds Try.pinned (OpenSpec.upto sortsActsSpec)

/-- 'theodolitelaw6.SortsLevels', WHERE WHAT IT READS IS OF BULK AT MOST 1048576: true; the input reads as it did. -/
def sortsLevelsUptoRow : OpenClaim := { program := "ytlcgdiciiibeeaa", sum := "4b675b41d8ace6db54cae07b4ab451085a04d1a24518444c70ae4ae0a4d35077", func := "theodolite/theodolitelaw6.SortsLevels", spec := "sortsLevels", inPlace := ["internal/bytealg.abigen_runtime_cmpstring"], unfollowed := true, recurses := true, apart := false, narrowed := true }
def SortsLevelsUptoSaid : Prop := sortsLevelsUptoRow.holds Try.pinned (OpenSpec.upto sortsLevelsSpec)

/-- 'theodolitelaw6.SortsNames', WHERE WHAT IT READS IS OF BULK AT MOST 1048576: true; the input reads as it did. -/
def sortsNamesUptoRow : OpenClaim := { program := "ytlcgdiciiibeeaa", sum := "4b675b41d8ace6db54cae07b4ab451085a04d1a24518444c70ae4ae0a4d35077", func := "theodolite/theodolitelaw6.SortsNames", spec := "sortsNames", inPlace := ["internal/bytealg.abigen_runtime_cmpstring"], unfollowed := true, recurses := true, apart := false, narrowed := true }
def SortsNamesUptoSaid : Prop := sortsNamesUptoRow.holds Try.pinned (OpenSpec.upto sortsNamesSpec)

/-- 'theodolitelaw6.SortsFuns', WHERE WHAT IT READS IS OF BULK AT MOST 1048576: true; the input reads as it did. -/
def sortsFunsUptoRow : OpenClaim := { program := "ytlcgdiciiibeeaa", sum := "4b675b41d8ace6db54cae07b4ab451085a04d1a24518444c70ae4ae0a4d35077", func := "theodolite/theodolitelaw6.SortsFuns", spec := "sortsFuns", inPlace := ["internal/bytealg.abigen_runtime_cmpstring"], unfollowed := true, recurses := true, apart := false, narrowed := true }
def SortsFunsUptoSaid : Prop := sortsFunsUptoRow.holds Try.pinned (OpenSpec.upto sortsFunsSpec)

end Rows
end Go.Proofs.Ytlcgdiciiibeeaa
