/- A slice of texts that comes in. -/
import Derived.WalkKit
import Derived.ProofKit
import Derived.OpenShut
import Derived.Below
import Derived.ChangeSlices
import Derived.Deep.Strs
import Derived.Test.YtgdfnngfifjdmaaDoorSfSorts
namespace Go.Proofs.YtgdfnngfifjdmaaDoor
open Go.ChangeShapes Go.WideShapes Go.ChangeAt Go.RowKit

theorem cellsStr : Tryd.prog.cellsOf 9 = 1 := by kernel_rfl
theorem laidOut : laidOutB Tryd.prog = true := by kernel_rfl
theorem open_texts {H : Type} {enc : TypeId × Value → H} {W : World} {base : Nat} {spare : Nat → Bool} {held : Bool} {a : Option Addr} {len cap : Nat} {d : DataW H} {ps : List MemPlace}
    (h : DataW.Trod enc Tryd.prog W base spare held 28 (.slice a len cap) d ps) : ∃ l : List ByteArray, l.length = len ∧ TextsAt W a l ∧ len ≤ maxLen ∧ len ≤ cap := by
  obtain ⟨fuel, hf⟩ := h
  rcases Go.Deep.open_strs Tryd.underlying28 Tryd.underlying9 cellsStr hf with ⟨hcs, _⟩ | ⟨x, l, c, m, Sx, hcs, _, hl, hm, hmm, _, hcells⟩
  · simp [Value.cells] at hcs
    obtain ⟨rfl, rfl, rfl⟩ := hcs
    exact ⟨[], rfl, .inl rfl, by unfold maxLen; omega, Nat.le_refl _⟩
  · simp [Value.cells] at hcs
    obtain ⟨rfl, rfl, rfl⟩ := hcs
    refine ⟨(List.range len).map Sx, by simp, ?_, by omega, hl⟩
    by_cases h00 : len = 0
    · subst h00; exact .inl rfl
    · have hlm : len ≤ m := by rw [hmm]; split <;> omega
      obtain ⟨b, off, spot⟩ := x
      have hspot : spot = none := by
        have h := World.cell?_spot (hcells 0 (by omega)).1
        simpa [Addr.add] using h
      subst hspot
      refine .inr ⟨b, off, rfl, ?_, fun i t hi => ?_⟩
      · have h := (hcells 0 (by omega)).1
        rw [Addr.add_mid] at h
        exact World.block_lt_of_cell? W _ h
      · have hin : i < len := by simpa using (List.getElem?_eq_some_iff.1 hi).1
        have h := (hcells i (by omega)).1
        rw [Addr.add_mid] at h
        simp [hin] at hi
        rw [h, hi]
end Go.Proofs.YtgdfnngfifjdmaaDoor
