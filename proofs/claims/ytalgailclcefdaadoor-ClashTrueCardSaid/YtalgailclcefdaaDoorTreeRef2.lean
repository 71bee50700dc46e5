/- The document's proofs, and what comes out of one: the contracts of its Proof, Comes. -/
import Derived.Test.YtalgailclcefdaaDoorTreeRef
namespace Go.Proofs.YtalgailclcefdaaDoor
open Go.RowKit

theorem own_mono {w : World} {base base' n : Nat} {e : TypeId} {v : Value} {xs : List Value} (h : w.ownsRow base e 1 v n xs) (hb : base' ≤ base) : w.ownsRow base' e 1 v n xs :=
  ⟨h.1, h.2.imp id fun ⟨g, cap, cur, e1, e2, e3⟩ => ⟨g, cap, cur, e1, Nat.le_trans hb e2, e3⟩⟩
end Go.Proofs.YtalgailclcefdaaDoor
