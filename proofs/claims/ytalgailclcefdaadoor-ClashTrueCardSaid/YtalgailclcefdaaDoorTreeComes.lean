/- What comes out of a hash and a proof: the contract of the document's Comes. -/
import Derived.Test.YtalgailclcefdaaDoorTreeRef2
namespace Go.Proofs.YtalgailclcefdaaDoor
open Go.RowKit

theorem comes_size (h : ByteArray → ByteArray) (n B : Nat) (x : ByteArray) (hx : x.size ≤ B) (hn : ∀ s, (h s).size ≤ B) (r : List ByteArray) : ∀ k c, (comesS h n x k c r).1.size ≤ B := by
  induction r with
  | nil => intro k c; unfold comesS; split; exact hx; exact Nat.zero_le _
  | cons q r ih =>
    intro k c
    unfold comesS
    split
    · exact hx
    · split
      · exact Nat.zero_le _
      · split <;> exact hn _
end Go.Proofs.YtalgailclcefdaaDoor
