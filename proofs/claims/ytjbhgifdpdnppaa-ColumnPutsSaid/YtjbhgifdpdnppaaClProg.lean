/- What the laws of columns ask of the program: it holds. -/
import Derived.Test.YtjbhgifdpdnppaaClP8
namespace Go.Proofs.Ytjbhgifdpdnppaa
open Go.RowKit Base Base2

def KCol (_ : World) : Prop := True
theorem colC : ColC KCol where
  keep := fun _ _ _ _ => trivial
  put := fun a c l W _ hr hl hin => by
    by_cases h : l.length ≤ 65536
    · rw [putV_all l h]; exact put7 a c l W hr h hin
    · rw [putV_many l h]; exact put7_many a c l.length W hl (by omega)
  runs := fun a c l W _ hr hl hin => runs8 a c l W hr hl hin
  get := fun s most W _ hs hin => by
    unfold getV
    by_cases h : most < 0 ∨ 65536 < most
    · rw [if_pos h]; exact get11_arg s most W h
    · rw [if_neg h]
      have h2 := get11 s most.toNat W (by omega) (by omega)
      rw [Int.toNat_of_nonneg (by omega)] at h2
      exact h2
end Go.Proofs.Ytjbhgifdpdnppaa
