/- The document's example: the contract of alive. -/
import Derived.Test.YtalgailclcefdaaDoorTreeCheck
import Derived.Test.YtalgailclcefdaaDoorTreeComes
namespace Go.Proofs.YtalgailclcefdaaDoor
open Go.RowKit

def l5 : List ByteArray := [⟨#[97]⟩, ⟨#[98]⟩, ⟨#[99]⟩, ⟨#[100]⟩, ⟨#[101]⟩]
theorem spl5 : spl 5 = 4 := by decide
theorem spl4 : spl 4 = 2 := by decide
theorem proof5 (h : ByteArray → ByteArray) : proofS h l5 4 = [rootS h (l5.take 4)] := by
  rw [proofS_right h (by decide) (by decide)]
  rw [show spl l5.length = 4 from spl5, proofS_nil h _ (by decide)]
  rfl
theorem strs_new (w : World) (l : List ByteArray) : StrsAt (w.alloc (.cells (l.map Value.string).toArray 9)) (some ⟨w.heap.size, 0, none⟩) l := by
  refine .inr ⟨w.heap.size, 0, rfl, by simp, fun i t hi => ?_⟩
  have h := heap_alloc_new w (.cells (l.map Value.string).toArray 9)
  rw [cell_of_row _ _ _ _ 9 (0, 0) h]
  simp [hi]
end Go.Proofs.YtalgailclcefdaaDoor
