/- The turns on the way down; whether a text has another length: the contracts of turnsTo, ContainsFunc, the closures. -/
import Derived.Test.YtalgailclcefdaaDoorTreeMem
import Derived.Test.YtalgailclcefdaaDoorShaHash
import Derived.Lib.SmallJoins
namespace Go.Proofs.YtalgailclcefdaaDoor
open Go.RowKit

theorem info4 : (Tryd.prog.info? 4).map (fun i => (i.zero, i.size, i.bytes)) = some (some (.bool false), 1, 1) := by kernel_rfl
theorem one_cell_bool (b : Bool) : ∀ u ∈ [Value.bool b], u.oneCell' = true := by
  intro u hu; simp at hu; subst hu; rfl
end Go.Proofs.YtalgailclcefdaaDoor
