/-
  DERIVED. GIVEN WITH THE SEED: THE CARDS: each row of YtgdfnngfifjdmaaDoorRows.lean that lists a variable, with what it lists TIED to the program's text (the seventh form; the later family's looks); each row that meets fmt, with fmt's text TOLD by the authors' own Lean function (tested against real Go, not proved from fmt's source: count such statements apart). THE CARD IS WHAT COUNTS. Prove the row's statement (the work); the ties are given (YtgdfnngfifjdmaaDoorTie.lean); close each card by the builder's one call (the guide's Derived/Test/ToyasCard.lean, 'card_holds'). Laid BY PROGRAM, IN A SANDBOX (cutbox-door.mjs). By AI agents, Wed Nov 11 2026. No macro, syntax, notation, axiom, sorry.
-/
import Derived.Test.YtgdfnngfifjdmaaDoorRows
import GoSem.ClaimSeven
namespace Go.Proofs.YtgdfnngfifjdmaaDoor
namespace Rows

/-- THE TIED CARD OF 'engrosslaw10.ShelfNames'. -/
def shelfNamesCard : Claim7 := { stood := { row := shelfNamesRow, standIns := [], harness := (true, "3fe6f1dc3eb444b86c6b2d76bb59eae7839611920100827be989f0f03aba8f2e"), looks := false }, kinds := [], alts := [], laidByText := true, laidKinds := [.data, .data, .data], laidTests := true, laidLooks := .later }
def ShelfNamesCardSaid : Prop := Claim7.holds Tryd.pinned (.plain (OpenSpec.ofChange shelfNamesSpec)) shelfNamesCard

/-- THE TIED CARD OF 'engrosslaw10.ShelfKinds'. -/
def shelfKindsCard : Claim7 := { stood := { row := shelfKindsRow, standIns := [], harness := (true, "3fe6f1dc3eb444b86c6b2d76bb59eae7839611920100827be989f0f03aba8f2e"), looks := false }, kinds := [], alts := [], laidByText := true, laidKinds := [.data, .data, .data], laidTests := true, laidLooks := .later }
def ShelfKindsCardSaid : Prop := Claim7.holds Tryd.pinned (.plain (OpenSpec.ofChange shelfKindsSpec)) shelfKindsCard

/-- THE TIED CARD OF 'engrosslaw10.ShelfSorts'. -/
def shelfSortsCard : Claim7 := { stood := { row := shelfSortsRow, standIns := [], harness := (true, "3fe6f1dc3eb444b86c6b2d76bb59eae7839611920100827be989f0f03aba8f2e"), looks := false }, kinds := [], alts := [], laidByText := true, laidKinds := [.data, .data, .data], laidTests := true, laidLooks := .later }
def ShelfSortsCardSaid : Prop := Claim7.holds Tryd.pinned (.plain (OpenSpec.ofChange shelfSortsSpec)) shelfSortsCard

/-- THE SECOND FORM's CARD OF 'engrosslaw10.ShelfNames'. -/
def shelfNamesUptoCard : Claim7 := { stood := { row := shelfNamesUptoRow, standIns := [], harness := (true, "3fe6f1dc3eb444b86c6b2d76bb59eae7839611920100827be989f0f03aba8f2e"), looks := false }, kinds := [], alts := [], laidByText := true, laidKinds := [.data, .data, .data], laidTests := true, laidLooks := .later }
def ShelfNamesUptoCardSaid : Prop := Claim7.holds Tryd.pinned (.plain (OpenSpec.upto shelfNamesSpec)) shelfNamesUptoCard

/-- THE SECOND FORM's CARD OF 'engrosslaw10.ShelfKinds'. -/
def shelfKindsUptoCard : Claim7 := { stood := { row := shelfKindsUptoRow, standIns := [], harness := (true, "3fe6f1dc3eb444b86c6b2d76bb59eae7839611920100827be989f0f03aba8f2e"), looks := false }, kinds := [], alts := [], laidByText := true, laidKinds := [.data, .data, .data], laidTests := true, laidLooks := .later }
def ShelfKindsUptoCardSaid : Prop := Claim7.holds Tryd.pinned (.plain (OpenSpec.upto shelfKindsSpec)) shelfKindsUptoCard

/-- THE SECOND FORM's CARD OF 'engrosslaw10.ShelfSorts'. -/
def shelfSortsUptoCard : Claim7 := { stood := { row := shelfSortsUptoRow, standIns := [], harness := (true, "3fe6f1dc3eb444b86c6b2d76bb59eae7839611920100827be989f0f03aba8f2e"), looks := false }, kinds := [], alts := [], laidByText := true, laidKinds := [.data, .data, .data], laidTests := true, laidLooks := .later }
def ShelfSortsUptoCardSaid : Prop := Claim7.holds Tryd.pinned (.plain (OpenSpec.upto shelfSortsSpec)) shelfSortsUptoCard
end Rows
end Go.Proofs.YtgdfnngfifjdmaaDoor
