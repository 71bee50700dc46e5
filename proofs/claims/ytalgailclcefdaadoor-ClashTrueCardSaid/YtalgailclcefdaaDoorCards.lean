/-
  DERIVED. GIVEN WITH THE SEED: THE CARDS: each row of YtalgailclcefdaaDoorRows.lean that lists a variable, with what it lists TIED to the program's text (the seventh form; the later family's looks); each row that meets fmt, with fmt's text TOLD by the authors' own Lean function (tested against real Go, not proved from fmt's source: count such statements apart). THE CARD IS WHAT COUNTS. Prove the row's statement (the work); the ties are given (YtalgailclcefdaaDoorTie.lean); close each card by the builder's one call (the guide's Derived/Test/ToyasCard.lean, 'card_holds'). Laid BY PROGRAM, IN A SANDBOX (cutbox-door.mjs). By AI agents, Wed Nov 11 2026. No macro, syntax, notation, axiom, sorry.
-/
import Derived.Test.YtalgailclcefdaaDoorRows
import GoSem.ClaimSeven
namespace Go.Proofs.YtalgailclcefdaaDoor
namespace Rows

/-- THE TIED CARD OF 'engrosslaw04.ClashFinds'. -/
def clashFindsCard : Claim7 := { stood := { row := clashFindsRow, standIns := [], harness := (true, "2b0b2df5c5a2c078a427b390e310d62581c150ca0d48e0e2a6837c813dc5b701"), looks := false }, kinds := [], alts := [], laidByText := true, laidKinds := [.data], laidTests := true, laidLooks := .later }
def ClashFindsCardSaid : Prop := Claim7.holds Tryd.pinned (.plain (OpenSpec.ofChange clashFindsSpec)) clashFindsCard

/-- THE TIED CARD OF 'engrosslaw04.ClashChains'. -/
def clashChainsCard : Claim7 := { stood := { row := clashChainsRow, standIns := [], harness := (true, "2b0b2df5c5a2c078a427b390e310d62581c150ca0d48e0e2a6837c813dc5b701"), looks := false }, kinds := [], alts := [], laidByText := true, laidKinds := [.data], laidTests := true, laidLooks := .later }
def ClashChainsCardSaid : Prop := Claim7.holds Tryd.pinned (.plain (OpenSpec.ofChange clashChainsSpec)) clashChainsCard

/-- THE TIED CARD OF 'engrosslaw04.ClashTrue'. -/
def clashTrueCard : Claim7 := { stood := { row := clashTrueRow, standIns := [], harness := (true, "2b0b2df5c5a2c078a427b390e310d62581c150ca0d48e0e2a6837c813dc5b701"), looks := false }, kinds := [], alts := [], laidByText := true, laidKinds := [.data], laidTests := true, laidLooks := .later }
def ClashTrueCardSaid : Prop := Claim7.holds Tryd.pinned (.plain (OpenSpec.ofChange clashTrueSpec)) clashTrueCard

/-- THE SECOND FORM's CARD OF 'engrosslaw04.ClashFinds'. -/
def clashFindsUptoCard : Claim7 := { stood := { row := clashFindsUptoRow, standIns := [], harness := (true, "2b0b2df5c5a2c078a427b390e310d62581c150ca0d48e0e2a6837c813dc5b701"), looks := false }, kinds := [], alts := [], laidByText := true, laidKinds := [.data], laidTests := true, laidLooks := .later }
def ClashFindsUptoCardSaid : Prop := Claim7.holds Tryd.pinned (.plain (OpenSpec.upto clashFindsSpec)) clashFindsUptoCard

/-- THE SECOND FORM's CARD OF 'engrosslaw04.ClashChains'. -/
def clashChainsUptoCard : Claim7 := { stood := { row := clashChainsUptoRow, standIns := [], harness := (true, "2b0b2df5c5a2c078a427b390e310d62581c150ca0d48e0e2a6837c813dc5b701"), looks := false }, kinds := [], alts := [], laidByText := true, laidKinds := [.data], laidTests := true, laidLooks := .later }
def ClashChainsUptoCardSaid : Prop := Claim7.holds Tryd.pinned (.plain (OpenSpec.upto clashChainsSpec)) clashChainsUptoCard

/-- THE SECOND FORM's CARD OF 'engrosslaw04.ClashTrue'. -/
def clashTrueUptoCard : Claim7 := { stood := { row := clashTrueUptoRow, standIns := [], harness := (true, "2b0b2df5c5a2c078a427b390e310d62581c150ca0d48e0e2a6837c813dc5b701"), looks := false }, kinds := [], alts := [], laidByText := true, laidKinds := [.data], laidTests := true, laidLooks := .later }
def ClashTrueUptoCardSaid : Prop := Claim7.holds Tryd.pinned (.plain (OpenSpec.upto clashTrueSpec)) clashTrueUptoCard
end Rows
end Go.Proofs.YtalgailclcefdaaDoor
