/- The contract of alive: the document's example holds. -/
import Derived.Test.YtipaicfmodgcoaaDoorFails
namespace Go.Proofs.YtipaicfmodgcoaaDoor
open Go.RowKit

theorem alive_num : numTo (⟨#[128, 0]⟩ : ByteArray).data.toList (fun n => decide ((n : Int) ≤ 9)) = (0, 0, 3) := by decide +kernel
theorem alive19 (p : Nat) (w : World) (hX : RdX w p ⟨#[128, 0]⟩ 0) :
    Calls Tryd.prog 46 #[.pointer (some ⟨p, 0, none⟩), .int .u64 9] w fun x w' => x = .returned (.int .u64 0) ∧ RdX w' p ⟨#[128, 0]⟩ 3 ∧ w.grownBy w' (some p) := by
  have h := num19 p ⟨#[128, 0]⟩ 0 9 w (by decide) hX
  rw [alive_num] at h
  exact h

theorem below_own {w w1 w2 : World} {p : Nat} (h : Below w.heap.size w w1) (hg : w1.grownBy w2 (some p)) (hp : w.heap.size ≤ p) : Below w.heap.size w w2 :=
  ⟨hg.os.trans h.os, hg.tape.trans h.tape, hg.output.trans h.output, Nat.le_trans h.size hg.size, fun k hk => (hg.block k (by have := h.size; omega) (by simp; omega)).trans (h.block k hk)⟩
end Go.Proofs.YtipaicfmodgcoaaDoor
