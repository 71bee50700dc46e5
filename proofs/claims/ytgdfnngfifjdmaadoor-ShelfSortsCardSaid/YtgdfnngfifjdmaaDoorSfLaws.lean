/- The shelf's laws with the program's contracts in them. -/
import Derived.Test.YtgdfnngfifjdmaaDoorSfIn
import Derived.Test.YtgdfnngfifjdmaaDoorSfProg
namespace Go.Proofs.YtgdfnngfifjdmaaDoor
open Go.RowKit
theorem sf3 (n : Int) (w : World) (hK : PowAt w) (hn : -9223372036854775808 ≤ n ∧ n ≤ 9223372036854775807) : Calls Tryd.prog 3 #[.int .i64 n] w fun e w' => e = .returned (.bool true) ∧ Below w.heap.size w w' := names3S shelfC n w hK hn
theorem sf4 (s : ByteArray) (w : World) (hK : PowAt w) (hs : s.size ≤ maxLen) : Calls Tryd.prog 4 #[.string s] w fun e w' => e = .returned (.bool true) ∧ Below w.heap.size w w' := kinds4S shelfC s w hK hs
theorem sf5 (a : Option Addr) (n c : Nat) (l : List ByteArray) (w : World) (hK : PowAt w) (hn : l.length = n) (hr : TextsAt w a l) (hl : n ≤ maxLen) : Calls Tryd.prog 5 #[.slice a n c] w fun e w' => e = .returned (.bool true) ∧ Below w.heap.size w w' := sorts5S shelfC sortC a n c l w hK hn hr hl
end Go.Proofs.YtgdfnngfifjdmaaDoor
