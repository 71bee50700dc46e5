/-
  DERIVED. GIVEN WITH THE SEED: THE CARDS: each row of YtfodnadmabnacaaDoorRows.lean that lists a variable, with what it lists TIED to the program's text (the seventh form; the later family's looks); each row that meets fmt, with fmt's text TOLD by the authors' own Lean function (tested against real Go, not proved from fmt's source: count such statements apart). THE CARD IS WHAT COUNTS. Prove the row's statement (the work); the ties are given (YtfodnadmabnacaaDoorTie.lean); close each card by the builder's one call (the guide's Derived/Test/ToyasCard.lean, 'card_holds'). Laid BY PROGRAM, IN A SANDBOX (cutbox-door.mjs). By AI agents, Wed Nov 11 2026. No macro, syntax, notation, axiom, sorry.
-/
import Derived.Test.YtfodnadmabnacaaDoorRows
import GoSem.ClaimSeven
namespace Go.Proofs.YtfodnadmabnacaaDoor
namespace Rows

/-- THE TIED CARD OF 'engrosslaw16.RulesTable'. -/
def rulesTableCard : Claim7 := { stood := { row := rulesTableRow, standIns := [], harness := (true, "dbfb2a0de27d06105eebd96af4c5998b6b0ce6700891789e3a4376db64b2e40a"), looks := false }, kinds := [], alts := [], laidByText := true, laidKinds := [.data, .data, .data, .data], laidTests := true, laidLooks := .later }
def RulesTableCardSaid : Prop := Claim7.holds Tryd.pinned (.plain (OpenSpec.ofChange rulesTableSpec)) rulesTableCard

/-- THE TIED CARD OF 'engrosslaw16.RulesWeighs'. -/
def rulesWeighsCard : Claim7 := { stood := { row := rulesWeighsRow, standIns := [], harness := (true, "dbfb2a0de27d06105eebd96af4c5998b6b0ce6700891789e3a4376db64b2e40a"), looks := false }, kinds := [], alts := [], laidByText := true, laidKinds := [.data, .data, .data, .data], laidTests := true, laidLooks := .later }
def RulesWeighsCardSaid : Prop := Claim7.holds Tryd.pinned (.plain (OpenSpec.ofChange rulesWeighsSpec)) rulesWeighsCard

/-- THE TIED CARD OF 'engrosslaw16.RulesOpposed'. -/
def rulesOpposedCard : Claim7 := { stood := { row := rulesOpposedRow, standIns := [], harness := (true, "dbfb2a0de27d06105eebd96af4c5998b6b0ce6700891789e3a4376db64b2e40a"), looks := false }, kinds := [], alts := [], laidByText := true, laidKinds := [.data, .data, .data, .data], laidTests := true, laidLooks := .later }
def RulesOpposedCardSaid : Prop := Claim7.holds Tryd.pinned (.plain (OpenSpec.ofChange rulesOpposedSpec)) rulesOpposedCard

/-- THE SECOND FORM's CARD OF 'engrosslaw16.RulesTable'. -/
def rulesTableUptoCard : Claim7 := { stood := { row := rulesTableUptoRow, standIns := [], harness := (true, "dbfb2a0de27d06105eebd96af4c5998b6b0ce6700891789e3a4376db64b2e40a"), looks := false }, kinds := [], alts := [], laidByText := true, laidKinds := [.data, .data, .data, .data], laidTests := true, laidLooks := .later }
def RulesTableUptoCardSaid : Prop := Claim7.holds Tryd.pinned (.plain (OpenSpec.upto rulesTableSpec)) rulesTableUptoCard

/-- THE SECOND FORM's CARD OF 'engrosslaw16.RulesWeighs'. -/
def rulesWeighsUptoCard : Claim7 := { stood := { row := rulesWeighsUptoRow, standIns := [], harness := (true, "dbfb2a0de27d06105eebd96af4c5998b6b0ce6700891789e3a4376db64b2e40a"), looks := false }, kinds := [], alts := [], laidByText := true, laidKinds := [.data, .data, .data, .data], laidTests := true, laidLooks := .later }
def RulesWeighsUptoCardSaid : Prop := Claim7.holds Tryd.pinned (.plain (OpenSpec.upto rulesWeighsSpec)) rulesWeighsUptoCard

/-- THE SECOND FORM's CARD OF 'engrosslaw16.RulesOpposed'. -/
def rulesOpposedUptoCard : Claim7 := { stood := { row := rulesOpposedUptoRow, standIns := [], harness := (true, "dbfb2a0de27d06105eebd96af4c5998b6b0ce6700891789e3a4376db64b2e40a"), looks := false }, kinds := [], alts := [], laidByText := true, laidKinds := [.data, .data, .data, .data], laidTests := true, laidLooks := .later }
def RulesOpposedUptoCardSaid : Prop := Claim7.holds Tryd.pinned (.plain (OpenSpec.upto rulesOpposedSpec)) rulesOpposedUptoCard
end Rows
end Go.Proofs.YtfodnadmabnacaaDoor
