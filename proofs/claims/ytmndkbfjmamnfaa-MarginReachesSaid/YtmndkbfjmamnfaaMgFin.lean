/- The laws of margin: what their frames lean on. -/
import Derived.Test.YtmndkbfjmamnfaaMgLaws
import Derived.Test.YtmndkbfjmamnfaaBkIn
namespace Go.Proofs.Ytmndkbfjmamnfaa
open Go.RowKit

theorem laidOut : laidOutB Try.prog = true := by kernel_rfl
end Go.Proofs.Ytmndkbfjmamnfaa
