/-
  NARROWER THAN 'FOR EVERY INPUT', by the rows' own cells (each row's printed sentence says how): EventPuts: laid · EventGets: laid · EventNames: laid.
  DERIVED. THE GIVEN ROWS OF THIS SEAT. 3 by the template 'for every input the law returns true; each argument reads behind the call as it read before'; 0 by the template 'total and deterministic' (their statements: YtnakmlnjfjgghaaDoorTotals.lean).
  GIVEN WITH THE SEED: the statements are not yours to turn. If you find one false, say at which input.
  Laid BY PROGRAM, IN A SANDBOX (cutbox-rows.mjs): the forced cells as the released guide's own fill.sh prints them over the translation 6c0a8c6e0429b832… (all of the seat's roots in one cut). By AI agents, Wed Nov 11 2026. No macro, syntax, notation, axiom, sorry.
-/
import Derived.Test.YtnakmlnjfjgghaaDoorChecked
import GoSem.Claim
import GoSem.ClaimJoined
import GoSem.ClaimMapViews
import Derived.JoinedTies
import Derived.KernelRfl
namespace Go.Proofs.YtnakmlnjfjgghaaDoor
/- THE CELL 'sum', in the pinned program and in every row, IS THE sha256 OF THE DUMP (.gsa) THAT YtnakmlnjfjgghaaDoorProg.lean LOADS. Nothing in Lean hashes anything: it is a label: what it is worth is what the hold of that sum in a sandbox is worth. -/
noncomputable def Tryd.pinned : Pinned := { name := "ytnakmlnjfjgghaadoor", sum := "6c0a8c6e0429b83212bd4c7dedbdd09f08a4d9266704ad1a27b01b0ec23190a8", checked := Tryd.checked }
namespace Rows
def none {H : Type} : Left H := { results := [], args := [] }

/- WHAT THE LISTED PACKAGE-LEVEL VARIABLES READ AS WHEN THE CALL BEGINS. Each datum BY PROGRAM (the guide's laid-datum.mjs) off the statement by which the dump's own 'gosem.cut.vars' lays the variable. In a bare row this is a premise. The card (YtnakmlnjfjgghaaDoorCards.lean) ties it to the program's text. -/
def laid_engross_event_kinds {H : Type} : DataW H := .agg [.lit (.string []), .lit (.string [97, 99, 99, 111, 117, 110, 116]), .lit (.string [108, 105, 109, 105, 116]), .lit (.string [113, 117, 111, 116, 101]), .lit (.string [111, 114, 100, 101, 114]), .lit (.string [102, 105, 108, 108]), .lit (.string [99, 97, 110, 99, 101, 108]), .lit (.string [115, 110, 97, 112])]
def laid_engross_event_reasons {H : Type} : DataW H := .agg [.lit (.string [97, 99, 99, 101, 112, 116]), .lit (.string [107, 105, 110, 100]), .lit (.string [118, 97, 108, 117, 101]), .lit (.string [110, 111, 32, 97, 99, 99, 111, 117, 110, 116]), .lit (.string [97, 99, 99, 111, 117, 110, 116, 32, 116, 104, 101, 114, 101]), .lit (.string [111, 114, 100, 101, 114, 32, 116, 104, 101, 114, 101]), .lit (.string [110, 111, 32, 111, 114, 100, 101, 114]), .lit (.string [110, 111, 32, 112, 114, 105, 99, 101]), .lit (.string [102, 117, 108, 108]), .lit (.string [111, 114, 100, 101, 114, 32, 116, 111, 111, 32, 103, 114, 101, 97, 116]), .lit (.string [112, 111, 115, 105, 116, 105, 111, 110, 32, 116, 111, 111, 32, 103, 114, 101, 97, 116]), .lit (.string [109, 97, 114, 103, 105, 110]), .lit (.string [111, 118, 101, 114, 102, 108, 111, 119]), .lit (.string [117, 110, 97, 118, 97, 105, 108, 97, 98, 108, 101])]

/-- 'engrosslaw06.EventPuts': WHATEVER THE INPUT: true; the input reads as it did. -/
def eventPutsSpec : ChangeSpec := { name := "eventPuts", fn := fun _ => fun
  | [d] => { results := [.lit (.bool true)], args := [d] }
  | _ => none }
def eventPutsRow : OpenClaim := { program := "ytnakmlnjfjgghaadoor", sum := "6c0a8c6e0429b83212bd4c7dedbdd09f08a4d9266704ad1a27b01b0ec23190a8", func := "engross/engrosslaw06.EventPuts", spec := "eventPuts", inPlace := ["internal/abi.NoEscape"], unfollowed := true, recurses := true, named := ["engross/event.kinds", "engross/event.reasons"], apart := false, laid := [("engross/event.kinds", laid_engross_event_kinds), ("engross/event.reasons", laid_engross_event_reasons)] }
def EventPutsSaid : Prop := eventPutsRow.holds Tryd.pinned (OpenSpec.ofChange eventPutsSpec)

/-- ITS FALSE NEIGHBOUR: 'it returns false'. Refute it at one input. -/
def eventPutsWrong : ChangeSpec := { name := "eventPuts", fn := fun _ => fun
  | [d] => { results := [.lit (.bool false)], args := [d] }
  | _ => none }
def EventPutsWrongFalsely : Prop := eventPutsRow.holds Tryd.pinned (OpenSpec.ofChange eventPutsWrong)

/-- 'engrosslaw06.EventGets': WHATEVER THE INPUT: true; the input reads as it did. -/
def eventGetsSpec : ChangeSpec := { name := "eventGets", fn := fun _ => fun
  | [d] => { results := [.lit (.bool true)], args := [d] }
  | _ => none }
def eventGetsRow : OpenClaim := { program := "ytnakmlnjfjgghaadoor", sum := "6c0a8c6e0429b83212bd4c7dedbdd09f08a4d9266704ad1a27b01b0ec23190a8", func := "engross/engrosslaw06.EventGets", spec := "eventGets", inPlace := ["internal/abi.NoEscape"], unfollowed := true, recurses := true, named := ["engross/event.kinds", "engross/event.reasons"], apart := false, laid := [("engross/event.kinds", laid_engross_event_kinds), ("engross/event.reasons", laid_engross_event_reasons)] }
def EventGetsSaid : Prop := eventGetsRow.holds Tryd.pinned (OpenSpec.ofChange eventGetsSpec)

/-- ITS FALSE NEIGHBOUR: 'it returns false'. Refute it at one input. -/
def eventGetsWrong : ChangeSpec := { name := "eventGets", fn := fun _ => fun
  | [d] => { results := [.lit (.bool false)], args := [d] }
  | _ => none }
def EventGetsWrongFalsely : Prop := eventGetsRow.holds Tryd.pinned (OpenSpec.ofChange eventGetsWrong)

/-- 'engrosslaw06.EventNames': WHATEVER THE INPUT: true; the input reads as it did. -/
def eventNamesSpec : ChangeSpec := { name := "eventNames", fn := fun _ => fun
  | [d] => { results := [.lit (.bool true)], args := [d] }
  | _ => none }
def eventNamesRow : OpenClaim := { program := "ytnakmlnjfjgghaadoor", sum := "6c0a8c6e0429b83212bd4c7dedbdd09f08a4d9266704ad1a27b01b0ec23190a8", func := "engross/engrosslaw06.EventNames", spec := "eventNames", inPlace := ["internal/abi.NoEscape"], named := ["engross/event.kinds", "engross/event.reasons"], apart := false, laid := [("engross/event.kinds", laid_engross_event_kinds), ("engross/event.reasons", laid_engross_event_reasons)] }
def EventNamesSaid : Prop := eventNamesRow.holds Tryd.pinned (OpenSpec.ofChange eventNamesSpec)

/-- ITS FALSE NEIGHBOUR: 'it returns false'. Refute it at one input. -/
def eventNamesWrong : ChangeSpec := { name := "eventNames", fn := fun _ => fun
  | [d] => { results := [.lit (.bool false)], args := [d] }
  | _ => none }
def EventNamesWrongFalsely : Prop := eventNamesRow.holds Tryd.pinned (OpenSpec.ofChange eventNamesWrong)

/- THE SECOND FORM. 'bulk': how many values and letters a reading holds, each counted each time it is reached (what is shared counts as often as it is met; a slice's spare places count too). A statement '..UptoSaid' is the law's where the arguments, and the package variables that the reading takes, are together of bulk at most 1048576: NARROWER than '..Said'. Prove '..Said' where nothing that the law and all that it calls make is longer than what came in: it says more and counts as full. Else prove '..UptoSaid'. A law counts once. -/
mutual
def uptoBulk {H : Type} : DataW H → Nat
  | .lit (.string bytes) => bytes.length + 1
  | .lit _ => 1
  | .nil => 1
  | .ptr d => uptoBulk d + 1
  | .slice elems spare => uptoBulkAll elems + uptoBulkAll spare + 1
  | .agg parts => uptoBulkAll parts + 1
  | .iface _ d => uptoBulk d + 1
  | .map entries => uptoBulkEntries entries + 1
  | .held _ => 1
def uptoBulkAll {H : Type} : List (DataW H) → Nat
  | [] => 0
  | d :: r => uptoBulk d + uptoBulkAll r
def uptoBulkEntries {H : Type} : List (Lit × DataW H) → Nat
  | [] => 0
  | x :: r => uptoBulkEntry x + uptoBulkEntries r
def uptoBulkEntry {H : Type} : Lit × DataW H → Nat
  | (.string bytes, d) => bytes.length + uptoBulk d + 1
  | (_, d) => uptoBulk d + 1
 end
def uptoSmall : (H : Type) → List (DataW H) → Bool := fun _ ds => decide (uptoBulkAll ds ≤ 1048576)
def OpenSpec.upto (s : _root_.Go.ChangeSpec) : _root_.Go.OpenSpec := { _root_.Go.OpenSpec.ofChange s with cond := some uptoSmall }

/-- 'engrosslaw06.EventPuts', WHERE WHAT IT READS IS OF BULK AT MOST 1048576: true; the input reads as it did. -/
def eventPutsUptoRow : OpenClaim := { program := "ytnakmlnjfjgghaadoor", sum := "6c0a8c6e0429b83212bd4c7dedbdd09f08a4d9266704ad1a27b01b0ec23190a8", func := "engross/engrosslaw06.EventPuts", spec := "eventPuts", inPlace := ["internal/abi.NoEscape"], unfollowed := true, recurses := true, named := ["engross/event.kinds", "engross/event.reasons"], apart := false, laid := [("engross/event.kinds", laid_engross_event_kinds), ("engross/event.reasons", laid_engross_event_reasons)], narrowed := true }
def EventPutsUptoSaid : Prop := eventPutsUptoRow.holds Tryd.pinned (OpenSpec.upto eventPutsSpec)

/-- 'engrosslaw06.EventGets', WHERE WHAT IT READS IS OF BULK AT MOST 1048576: true; the input reads as it did. -/
def eventGetsUptoRow : OpenClaim := { program := "ytnakmlnjfjgghaadoor", sum := "6c0a8c6e0429b83212bd4c7dedbdd09f08a4d9266704ad1a27b01b0ec23190a8", func := "engross/engrosslaw06.EventGets", spec := "eventGets", inPlace := ["internal/abi.NoEscape"], unfollowed := true, recurses := true, named := ["engross/event.kinds", "engross/event.reasons"], apart := false, laid := [("engross/event.kinds", laid_engross_event_kinds), ("engross/event.reasons", laid_engross_event_reasons)], narrowed := true }
def EventGetsUptoSaid : Prop := eventGetsUptoRow.holds Tryd.pinned (OpenSpec.upto eventGetsSpec)

/-- 'engrosslaw06.EventNames', WHERE WHAT IT READS IS OF BULK AT MOST 1048576: true; the input reads as it did. -/
def eventNamesUptoRow : OpenClaim := { program := "ytnakmlnjfjgghaadoor", sum := "6c0a8c6e0429b83212bd4c7dedbdd09f08a4d9266704ad1a27b01b0ec23190a8", func := "engross/engrosslaw06.EventNames", spec := "eventNames", inPlace := ["internal/abi.NoEscape"], named := ["engross/event.kinds", "engross/event.reasons"], apart := false, laid := [("engross/event.kinds", laid_engross_event_kinds), ("engross/event.reasons", laid_engross_event_reasons)], narrowed := true }
def EventNamesUptoSaid : Prop := eventNamesUptoRow.holds Tryd.pinned (OpenSpec.upto eventNamesSpec)

end Rows
end Go.Proofs.YtnakmlnjfjgghaaDoor
