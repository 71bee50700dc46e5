/- The contract of the document's reader: Row. -/
import Derived.Test.YtbaajabiimckoaaRefs2
namespace Go.Proofs.Ytbaajabiimckoaa
open Go.RowKit

/-- Row's look, by its cases. -/
theorem rowR_bad (r : ByteArray) (most : Int) (h : (numTo r.data.toList (rowMay most)).2.2 ≠ 0) : rowR r most = (⟨#[]⟩, 0, (numTo r.data.toList (rowMay most)).2.2) := by
  unfold rowR; rw [if_neg h]
theorem rowR_ok (r : ByteArray) (most : Int) (N : Nat × Nat × Int) (hN : numTo r.data.toList (rowMay most) = N) (h : N.2.2 = 0) :
    rowR r most = ((takeR (r.extract N.2.1 r.size) N.1).1, N.2.1 + ((takeR (r.extract N.2.1 r.size) N.1).1.size : Int), (takeR (r.extract N.2.1 r.size) N.1).2) := by
  unfold rowR; rw [hN, if_pos h]

theorem ext2 (S : ByteArray) (P k n : Nat) (hP : P ≤ S.size) (hk : k ≤ S.size - P) (h : n ≤ S.size - P - k) :
    ((S.extract P S.size).extract k (S.extract P S.size).size).extract 0 n = S.extract (P + k) (P + k + n) := by
  apply ByteArray.ext
  have e : (S.extract P S.size).size = S.size - P := by simp [ByteArray.size_extract]
  rw [e]
  simp only [ByteArray.data_extract, Array.extract_extract]
  congr 1 <;> omega
end Go.Proofs.Ytbaajabiimckoaa
