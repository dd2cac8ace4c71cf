/-
  DERIVED. GIVEN WITH THE SEED: THE CARDS: each row of YtfdeiejphlaokaaGreatDoorRows.lean that lists a variable, with what it lists TIED to the program's text (the seventh form; the later family's looks); each row that meets fmt, with fmt's text TOLD by the authors' own Lean function (tested against real Go, not proved from fmt's source: count such statements apart). THE CARD IS WHAT COUNTS. Prove the row's statement (the work); the ties are given (YtfdeiejphlaokaaGreatDoorTie.lean); close each card by the builder's one call (the guide's Derived/Test/ToyasCard.lean, 'card_holds'). Laid BY PROGRAM, IN A SANDBOX (cutbox-door.mjs). By AI agents, Wed Nov 11 2026. No macro, syntax, notation, axiom, sorry.
-/
import Derived.Test.YtfdeiejphlaokaaGreatDoorRows
import GoSem.ClaimSeven
namespace Go.Proofs.YtfdeiejphlaokaaGreatDoor
namespace Rows

/-- THE TIED CARD OF 'theodolitelaw7.TermFresh'. -/
def termFreshCard : Claim7 := { stood := { row := termFreshRow, standIns := [], harness := (true, "ca2d5381d88005b357413c14648b3a09a78781b16d2a85c9385c377227c9e13f"), looks := false }, kinds := [], alts := [], laidByText := true, laidKinds := [.data, .data, .data], laidTests := true, laidLooks := .later }
def TermFreshCardSaid : Prop := Claim7.holds Tryz.pinned (.plain (OpenSpec.ofChange termFreshSpec)) termFreshCard

/-- THE TIED CARD OF 'theodolitelaw7.TermSums'. -/
def termSumsCard : Claim7 := { stood := { row := termSumsRow, standIns := [], harness := (true, "ca2d5381d88005b357413c14648b3a09a78781b16d2a85c9385c377227c9e13f"), looks := false }, kinds := [], alts := [], laidByText := true, laidKinds := [.data, .data, .data], laidTests := true, laidLooks := .later }
def TermSumsCardSaid : Prop := Claim7.holds Tryz.pinned (.plain (OpenSpec.ofChange termSumsSpec)) termSumsCard

/-- THE TIED CARD OF 'theodolitelaw7.TermSorts'. -/
def termSortsCard : Claim7 := { stood := { row := termSortsRow, standIns := [], harness := (true, "ca2d5381d88005b357413c14648b3a09a78781b16d2a85c9385c377227c9e13f"), looks := false }, kinds := [], alts := [], laidByText := true, laidKinds := [.data, .data, .data], laidTests := true, laidLooks := .later }
def TermSortsCardSaid : Prop := Claim7.holds Tryz.pinned (.plain (OpenSpec.ofChange termSortsSpec)) termSortsCard

/-- THE SECOND FORM's CARD OF 'theodolitelaw7.TermFresh'. -/
def termFreshUptoCard : Claim7 := { stood := { row := termFreshUptoRow, standIns := [], harness := (true, "ca2d5381d88005b357413c14648b3a09a78781b16d2a85c9385c377227c9e13f"), looks := false }, kinds := [], alts := [], laidByText := true, laidKinds := [.data, .data, .data], laidTests := true, laidLooks := .later }
def TermFreshUptoCardSaid : Prop := Claim7.holds Tryz.pinned (.plain (OpenSpec.upto termFreshSpec)) termFreshUptoCard

/-- THE SECOND FORM's CARD OF 'theodolitelaw7.TermSums'. -/
def termSumsUptoCard : Claim7 := { stood := { row := termSumsUptoRow, standIns := [], harness := (true, "ca2d5381d88005b357413c14648b3a09a78781b16d2a85c9385c377227c9e13f"), looks := false }, kinds := [], alts := [], laidByText := true, laidKinds := [.data, .data, .data], laidTests := true, laidLooks := .later }
def TermSumsUptoCardSaid : Prop := Claim7.holds Tryz.pinned (.plain (OpenSpec.upto termSumsSpec)) termSumsUptoCard

/-- THE SECOND FORM's CARD OF 'theodolitelaw7.TermSorts'. -/
def termSortsUptoCard : Claim7 := { stood := { row := termSortsUptoRow, standIns := [], harness := (true, "ca2d5381d88005b357413c14648b3a09a78781b16d2a85c9385c377227c9e13f"), looks := false }, kinds := [], alts := [], laidByText := true, laidKinds := [.data, .data, .data], laidTests := true, laidLooks := .later }
def TermSortsUptoCardSaid : Prop := Claim7.holds Tryz.pinned (.plain (OpenSpec.upto termSortsSpec)) termSortsUptoCard
end Rows
end Go.Proofs.YtfdeiejphlaokaaGreatDoor
