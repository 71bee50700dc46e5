/- The example of books. -/
import Derived.Test.YtmndkbfjmamnfaaBkLaw
import Derived.Test.YtmndkbfjmamnfaaBkRise
namespace Go.Proofs.Ytmndkbfjmamnfaa
open Go.RowKit Base Base2

def noSlots : Slots := ⟨none, none, none, none, 0, 0, 0, 0⟩
def noBook : BookT := ⟨[], [], [], [], 0⟩
theorem in_none (W : World) : BookIn W noSlots noBook := ⟨.inl rfl, .inl rfl, .inl rfl, .inl rfl⟩
def exB : BookT := ⟨[[2, 5, 0, 0]], [], [], [], 0⟩
def exC : BookT := ⟨[[2, 5, 0, 0]], [[2, 1, 7]], [], [], 0⟩
theorem exB_is : setHolderT noBook [2, 5, 0, 0] = exB := rfl
theorem exC_is : setStakeT exB [2, 1, 7] = exC := rfl
theorem exD_is : setStakeT exC [2, 1, 0] = exB := rfl
theorem ok_of {k : Nat} {l : List Item} (h1 : l.length ≤ 400) (h2 : l.all (fun x => x.length == k && x.all (fun z => decide (-9223372036854775808 ≤ z) && decide (z ≤ 9223372036854775807))) = true) : ItemsOk k 400 l := by
  refine ⟨h1, fun x hx => ?_⟩
  have h := List.all_eq_true.1 h2 x hx
  rw [Bool.and_eq_true] at h
  refine ⟨by simpa using h.1, fun z hz => ?_⟩
  have := List.all_eq_true.1 h.2 z hz
  simpa [in6] using this
theorem noBook_ok : BookOk 400 noBook := ⟨ok_of (by decide) rfl, ok_of (by decide) rfl, ok_of (by decide) rfl, ok_of (by decide) rfl, ⟨by decide, by decide⟩⟩
theorem exB_ok : BookOk 400 exB := ⟨ok_of (by decide) rfl, ok_of (by decide) rfl, ok_of (by decide) rfl, ok_of (by decide) rfl, ⟨by decide, by decide⟩⟩
theorem exC_ok : BookOk 400 exC := ⟨ok_of (by decide) rfl, ok_of (by decide) rfl, ok_of (by decide) rfl, ok_of (by decide) rfl, ⟨by decide, by decide⟩⟩
end Go.Proofs.Ytmndkbfjmamnfaa
