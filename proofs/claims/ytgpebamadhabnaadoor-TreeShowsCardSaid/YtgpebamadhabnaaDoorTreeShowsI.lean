/- The walk of the law TreeShows, for a number as it comes. -/
import Derived.Test.YtgpebamadhabnaaDoorTreeShowsW
namespace Go.Proofs.YtgpebamadhabnaaDoor
open Go.RowKit

theorem walk5i (a : Option Addr) (m cap : Nat) (l : List ByteArray) (z : Int) (other : ByteArray) (w : World) (hz : (Lit.int .u8 z).wf = true) (hl : l.length = m) (hr : StrsAt w a l) (hm : m ≤ maxLen) (hcap : m ≤ cap) (hK : KHeld w) :
    Calls Tryd.prog 5 #[.slice a m cap, .int .u8 z, .string other] w fun e w' => e = .returned (.bool true) ∧ Below w.heap.size w w' := by
  have h0 : 0 ≤ z ∧ z ≤ 255 := by simpa [Lit.wf, IntKind.min, IntKind.max, IntKind.signed, IntKind.bits] using hz
  have e : z = ((z.toNat : Nat) : Int) := by omega
  rw [e]
  exact walk5 a m cap l z.toNat other w (by omega) hl hr hm hcap hK
end Go.Proofs.YtgpebamadhabnaaDoor
