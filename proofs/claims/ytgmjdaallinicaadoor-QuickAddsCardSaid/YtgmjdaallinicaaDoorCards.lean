/-
  DERIVED. GIVEN WITH THE SEED: THE CARDS: each row of YtgmjdaallinicaaDoorRows.lean that lists a variable, with what it lists TIED to the program's text (the seventh form; the later family's looks); each row that meets fmt, with fmt's text TOLD by the authors' own Lean function (tested against real Go, not proved from fmt's source: count such statements apart). THE CARD IS WHAT COUNTS. Prove the row's statement (the work); the ties are given (YtgmjdaallinicaaDoorTie.lean); close each card by the builder's one call (the guide's Derived/Test/ToyasCard.lean, 'card_holds'). Laid BY PROGRAM, IN A SANDBOX (cutbox-door.mjs). By AI agents, Wed Nov 11 2026. No macro, syntax, notation, axiom, sorry.
-/
import Derived.Test.YtgmjdaallinicaaDoorRows
import GoSem.ClaimSeven
namespace Go.Proofs.YtgmjdaallinicaaDoor
namespace Rows

/-- THE TIED CARD OF 'theodolitelaw5.QuickTells'. -/
def quickTellsCard : Claim7 := { stood := { row := quickTellsRow, standIns := [], harness := (true, "195237c0663fabf320438315a006cc7faa85489a0099558c52cd9d2af898bd65"), looks := false }, kinds := [], alts := [], laidByText := true, laidKinds := [.data], laidTests := true, laidLooks := .later }
def QuickTellsCardSaid : Prop := Claim7.holds Tryd.pinned (.plain (OpenSpec.ofChange quickTellsSpec)) quickTellsCard

/-- THE TIED CARD OF 'theodolitelaw5.QuickHolds'. -/
def quickHoldsCard : Claim7 := { stood := { row := quickHoldsRow, standIns := [], harness := (true, "195237c0663fabf320438315a006cc7faa85489a0099558c52cd9d2af898bd65"), looks := false }, kinds := [], alts := [], laidByText := true, laidKinds := [.data], laidTests := true, laidLooks := .later }
def QuickHoldsCardSaid : Prop := Claim7.holds Tryd.pinned (.plain (OpenSpec.ofChange quickHoldsSpec)) quickHoldsCard

/-- THE TIED CARD OF 'theodolitelaw5.QuickSure'. -/
def quickSureCard : Claim7 := { stood := { row := quickSureRow, standIns := [], harness := (true, "195237c0663fabf320438315a006cc7faa85489a0099558c52cd9d2af898bd65"), looks := false }, kinds := [], alts := [], laidByText := true, laidKinds := [.data], laidTests := true, laidLooks := .later }
def QuickSureCardSaid : Prop := Claim7.holds Tryd.pinned (.plain (OpenSpec.ofChange quickSureSpec)) quickSureCard

/-- THE TIED CARD OF 'theodolitelaw5.QuickAdds'. -/
def quickAddsCard : Claim7 := { stood := { row := quickAddsRow, standIns := [], harness := (true, "195237c0663fabf320438315a006cc7faa85489a0099558c52cd9d2af898bd65"), looks := false }, kinds := [], alts := [], laidByText := true, laidKinds := [.data], laidTests := true, laidLooks := .later }
def QuickAddsCardSaid : Prop := Claim7.holds Tryd.pinned (.plain (OpenSpec.ofChange quickAddsSpec)) quickAddsCard

/-- THE TIED CARD OF 'theodolitelaw5.QuickOrder'. -/
def quickOrderCard : Claim7 := { stood := { row := quickOrderRow, standIns := [], harness := (true, "195237c0663fabf320438315a006cc7faa85489a0099558c52cd9d2af898bd65"), looks := false }, kinds := [], alts := [], laidByText := true, laidKinds := [.data], laidTests := true, laidLooks := .later }
def QuickOrderCardSaid : Prop := Claim7.holds Tryd.pinned (.plain (OpenSpec.ofChange quickOrderSpec)) quickOrderCard

/-- THE TIED CARD OF 'theodolitelaw5.QuickWhole'. -/
def quickWholeCard : Claim7 := { stood := { row := quickWholeRow, standIns := [], harness := (true, "195237c0663fabf320438315a006cc7faa85489a0099558c52cd9d2af898bd65"), looks := false }, kinds := [], alts := [], laidByText := true, laidKinds := [.data], laidTests := true, laidLooks := .later }
def QuickWholeCardSaid : Prop := Claim7.holds Tryd.pinned (.plain (OpenSpec.ofChange quickWholeSpec)) quickWholeCard

/-- THE SECOND FORM's CARD OF 'theodolitelaw5.QuickTells'. -/
def quickTellsUptoCard : Claim7 := { stood := { row := quickTellsUptoRow, standIns := [], harness := (true, "195237c0663fabf320438315a006cc7faa85489a0099558c52cd9d2af898bd65"), looks := false }, kinds := [], alts := [], laidByText := true, laidKinds := [.data], laidTests := true, laidLooks := .later }
def QuickTellsUptoCardSaid : Prop := Claim7.holds Tryd.pinned (.plain (OpenSpec.upto quickTellsSpec)) quickTellsUptoCard

/-- THE SECOND FORM's CARD OF 'theodolitelaw5.QuickHolds'. -/
def quickHoldsUptoCard : Claim7 := { stood := { row := quickHoldsUptoRow, standIns := [], harness := (true, "195237c0663fabf320438315a006cc7faa85489a0099558c52cd9d2af898bd65"), looks := false }, kinds := [], alts := [], laidByText := true, laidKinds := [.data], laidTests := true, laidLooks := .later }
def QuickHoldsUptoCardSaid : Prop := Claim7.holds Tryd.pinned (.plain (OpenSpec.upto quickHoldsSpec)) quickHoldsUptoCard

/-- THE SECOND FORM's CARD OF 'theodolitelaw5.QuickSure'. -/
def quickSureUptoCard : Claim7 := { stood := { row := quickSureUptoRow, standIns := [], harness := (true, "195237c0663fabf320438315a006cc7faa85489a0099558c52cd9d2af898bd65"), looks := false }, kinds := [], alts := [], laidByText := true, laidKinds := [.data], laidTests := true, laidLooks := .later }
def QuickSureUptoCardSaid : Prop := Claim7.holds Tryd.pinned (.plain (OpenSpec.upto quickSureSpec)) quickSureUptoCard

/-- THE SECOND FORM's CARD OF 'theodolitelaw5.QuickAdds'. -/
def quickAddsUptoCard : Claim7 := { stood := { row := quickAddsUptoRow, standIns := [], harness := (true, "195237c0663fabf320438315a006cc7faa85489a0099558c52cd9d2af898bd65"), looks := false }, kinds := [], alts := [], laidByText := true, laidKinds := [.data], laidTests := true, laidLooks := .later }
def QuickAddsUptoCardSaid : Prop := Claim7.holds Tryd.pinned (.plain (OpenSpec.upto quickAddsSpec)) quickAddsUptoCard

/-- THE SECOND FORM's CARD OF 'theodolitelaw5.QuickOrder'. -/
def quickOrderUptoCard : Claim7 := { stood := { row := quickOrderUptoRow, standIns := [], harness := (true, "195237c0663fabf320438315a006cc7faa85489a0099558c52cd9d2af898bd65"), looks := false }, kinds := [], alts := [], laidByText := true, laidKinds := [.data], laidTests := true, laidLooks := .later }
def QuickOrderUptoCardSaid : Prop := Claim7.holds Tryd.pinned (.plain (OpenSpec.upto quickOrderSpec)) quickOrderUptoCard

/-- THE SECOND FORM's CARD OF 'theodolitelaw5.QuickWhole'. -/
def quickWholeUptoCard : Claim7 := { stood := { row := quickWholeUptoRow, standIns := [], harness := (true, "195237c0663fabf320438315a006cc7faa85489a0099558c52cd9d2af898bd65"), looks := false }, kinds := [], alts := [], laidByText := true, laidKinds := [.data], laidTests := true, laidLooks := .later }
def QuickWholeUptoCardSaid : Prop := Claim7.holds Tryd.pinned (.plain (OpenSpec.upto quickWholeSpec)) quickWholeUptoCard
end Rows
end Go.Proofs.YtgmjdaallinicaaDoor
