/- The walks of the laws ShaSums and ShaEnds. -/
import Derived.Test.YtipaicfmodgcoaaDoorShaAlive
namespace Go.Proofs.YtipaicfmodgcoaaDoor
open Go.RowKit

theorem bt {a b c : World} (h : Below a.heap.size a b) (k : Below b.heap.size b c) : Below a.heap.size a c := h.trans (k.mono h.size)
theorem sum9d (s : ByteArray) (W : World) (hs : s.size ≤ 800000) (h : KHeld W) : Calls Tryd.prog 68 #[.string s] W fun e w' => e = .returned (.string (digS s)) ∧ Below W.heap.size W w' := sum9 s W hs h
end Go.Proofs.YtipaicfmodgcoaaDoor
