/-
  DERIVED. GIVEN WITH THE SEED: THE CARDS: each row of YtipaicfmodgcoaaDoorRows.lean that lists a variable, with what it lists TIED to the program's text (the seventh form; the later family's looks); each row that meets fmt, with fmt's text TOLD by the authors' own Lean function (tested against real Go, not proved from fmt's source: count such statements apart). THE CARD IS WHAT COUNTS. Prove the row's statement (the work); the ties are given (YtipaicfmodgcoaaDoorTie.lean); close each card by the builder's one call (the guide's Derived/Test/ToyasCard.lean, 'card_holds'). Laid BY PROGRAM, IN A SANDBOX (cutbox-door.mjs). By AI agents, Wed Nov 11 2026. No macro, syntax, notation, axiom, sorry.
-/
import Derived.Test.YtipaicfmodgcoaaDoorRows
import GoSem.ClaimSeven
namespace Go.Proofs.YtipaicfmodgcoaaDoor
namespace Rows

/-- THE TIED CARD OF 'engrosslaw08.HeadPuts'. -/
def headPutsCard : Claim7 := { stood := { row := headPutsRow, standIns := [], harness := (true, "9495ac53a46855d42aaa8a720c6855d0064163bb471f72663400cbfd7b8cf7c2"), looks := false }, kinds := [], alts := [], laidByText := true, laidKinds := [.data], laidTests := true, laidLooks := .later }
def HeadPutsCardSaid : Prop := Claim7.holds Tryd.pinned (.plain (OpenSpec.ofChange headPutsSpec)) headPutsCard

/-- THE TIED CARD OF 'engrosslaw08.HeadGets'. -/
def headGetsCard : Claim7 := { stood := { row := headGetsRow, standIns := [], harness := (true, "9495ac53a46855d42aaa8a720c6855d0064163bb471f72663400cbfd7b8cf7c2"), looks := false }, kinds := [], alts := [], laidByText := true, laidKinds := [.data], laidTests := true, laidLooks := .later }
def HeadGetsCardSaid : Prop := Claim7.holds Tryd.pinned (.plain (OpenSpec.ofChange headGetsSpec)) headGetsCard

/-- THE TIED CARD OF 'engrosslaw08.HeadChains'. -/
def headChainsCard : Claim7 := { stood := { row := headChainsRow, standIns := [], harness := (true, "9495ac53a46855d42aaa8a720c6855d0064163bb471f72663400cbfd7b8cf7c2"), looks := false }, kinds := [], alts := [], laidByText := true, laidKinds := [.data], laidTests := true, laidLooks := .later }
def HeadChainsCardSaid : Prop := Claim7.holds Tryd.pinned (.plain (OpenSpec.ofChange headChainsSpec)) headChainsCard

/-- THE SECOND FORM's CARD OF 'engrosslaw08.HeadPuts'. -/
def headPutsUptoCard : Claim7 := { stood := { row := headPutsUptoRow, standIns := [], harness := (true, "9495ac53a46855d42aaa8a720c6855d0064163bb471f72663400cbfd7b8cf7c2"), looks := false }, kinds := [], alts := [], laidByText := true, laidKinds := [.data], laidTests := true, laidLooks := .later }
def HeadPutsUptoCardSaid : Prop := Claim7.holds Tryd.pinned (.plain (OpenSpec.upto headPutsSpec)) headPutsUptoCard

/-- THE SECOND FORM's CARD OF 'engrosslaw08.HeadGets'. -/
def headGetsUptoCard : Claim7 := { stood := { row := headGetsUptoRow, standIns := [], harness := (true, "9495ac53a46855d42aaa8a720c6855d0064163bb471f72663400cbfd7b8cf7c2"), looks := false }, kinds := [], alts := [], laidByText := true, laidKinds := [.data], laidTests := true, laidLooks := .later }
def HeadGetsUptoCardSaid : Prop := Claim7.holds Tryd.pinned (.plain (OpenSpec.upto headGetsSpec)) headGetsUptoCard

/-- THE SECOND FORM's CARD OF 'engrosslaw08.HeadChains'. -/
def headChainsUptoCard : Claim7 := { stood := { row := headChainsUptoRow, standIns := [], harness := (true, "9495ac53a46855d42aaa8a720c6855d0064163bb471f72663400cbfd7b8cf7c2"), looks := false }, kinds := [], alts := [], laidByText := true, laidKinds := [.data], laidTests := true, laidLooks := .later }
def HeadChainsUptoCardSaid : Prop := Claim7.holds Tryd.pinned (.plain (OpenSpec.upto headChainsSpec)) headChainsUptoCard
end Rows
end Go.Proofs.YtipaicfmodgcoaaDoor
