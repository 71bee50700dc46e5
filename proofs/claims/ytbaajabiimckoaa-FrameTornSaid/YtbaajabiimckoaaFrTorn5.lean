/- The walk of FrameTorn, with the example's and the program's Scan's contracts in it. -/
import Derived.Test.YtbaajabiimckoaaFrAlive
import Derived.Test.YtbaajabiimckoaaFrIn
namespace Go.Proofs.Ytbaajabiimckoaa
open Go.RowKit

theorem torn5 (a : Option Addr) (len ca : Nat) (l : List ByteArray) (b : Option Addr) (lenb cb : Nat) (ks : List Nat) (cut : Int) (w : World) (hl : l.length = len) (hr : StrsAt w a l) (hm : len ≤ maxLen) (hc : len ≤ ca)
    (hlb : ks.length = lenb) (hk : KeptAt w b ks) (hmb : lenb ≤ maxLen) (hcb : lenb ≤ cb) (hcut : 0 ≤ cut ∧ cut ≤ 65535) :
    Calls Try.prog 5 #[.slice a len ca, .slice b lenb cb, .int .u16 cut] w fun e w' => e = .returned (.bool true) ∧ Below w.heap.size w w' := by
  subst hl hlb
  obtain ⟨c, rfl⟩ := Int.eq_ofNat_of_zero_le hcut.1
  exact tornW a l ca b ks cb c w hr hk hc hcb hm hmb (by omega) (fun S W h => scan11 S W h) alive6
end Go.Proofs.Ytbaajabiimckoaa
