/- The document's Same: its contract. -/
import Derived.Test.YtmndkbfjmamnfaaBkRef3
import Derived.Test.YtmndkbfjmamnfaaBkEq
namespace Go.Proofs.Ytmndkbfjmamnfaa
open Go.RowKit Base Base2

theorem take_eq_next {A B : List Item} {i : Nat} {x : Item} (h : A.take i = B.take i) (hx : A[i]? = some x) (hy : B[i]? = some x) : A.take (i + 1) = B.take (i + 1) := by rw [take_one hx, take_one hy, h]
theorem take_eq_no {A B : List Item} {i : Nat} {x y : Item} (hx : A[i]? = some x) (hy : B[i]? = some y) (h : x ≠ y) : (A == B) = false := by
  rw [beq_eq_false_iff_ne]; rintro rfl; rw [hx] at hy; exact h (Option.some.inj hy)
theorem take_eq_all {A B : List Item} {i : Nat} (h : A.take i = B.take i) (h1 : A.length ≤ i) (h2 : B.length ≤ i) : (A == B) = true := by
  rw [List.take_of_length_le h1, List.take_of_length_le h2] at h; rw [h]; simp
theorem len_ne {A B : List Item} (h : A.length ≠ B.length) : (A == B) = false := by rw [beq_eq_false_iff_ne]; rintro rfl; exact h rfl
end Go.Proofs.Ytmndkbfjmamnfaa
