/- A slice of numbers that comes in. -/
import Derived.WalkKit
import Derived.ProofKit
import Derived.OpenShut
import Derived.Below
import Derived.ChangeSlices
import Derived.Test.YtjbhgifdpdnppaaClPuts
import Derived.Test.YtjbhgifdpdnppaaClStairs
namespace Go.Proofs.Ytjbhgifdpdnppaa
open Go.ChangeShapes Go.WideShapes Go.ChangeAt Go.RowKit

theorem cellsI64 : Try.prog.cellsOf 2 = 1 := by kernel_rfl
theorem laidOut : laidOutB Try.prog = true := by kernel_rfl
/-- Numbers in a row, each of 64 bits. -/
def NumsI (W : World) (a : Option Addr) (l : List Int) : Prop := I64s W a l ∧ ∀ x ∈ l, in64 x
theorem open_i64s {H : Type} {enc : TypeId × Value → H} {W : World} {base : Nat} {spare : Nat → Bool} {held : Bool} {a : Option Addr} {len cap : Nat} {d : DataW H} {ps : List MemPlace}
    (h : DataW.Trod enc Try.prog W base spare held 22 (.slice a len cap) d ps) : ∃ l : List Int, l.length = len ∧ NumsI W a l ∧ len ≤ maxLen ∧ len ≤ cap := by
  obtain ⟨fuel, hf⟩ := h
  rcases open_ints Try.underlying22 Try.underlying2 cellsI64 hf with ⟨hcs, _⟩ | ⟨x, n, c, zs, hcs, _, hl, hm, hmm, _, hcells, hwf⟩
  · simp [Value.cells] at hcs
    obtain ⟨rfl, rfl, rfl⟩ := hcs
    exact ⟨[], rfl, ⟨.inl rfl, by simp⟩, by unfold maxLen; omega, Nat.le_refl _⟩
  · simp [Value.cells] at hcs
    obtain ⟨rfl, rfl, rfl⟩ := hcs
    have hlm : len ≤ zs.length := by rw [hmm]; split <;> omega
    refine ⟨zs.take len, by rw [List.length_take]; omega, ⟨?_, fun z hz => ?_⟩, by omega, hl⟩
    · by_cases h00 : len = 0
      · subst h00; exact .inl (List.take_zero ..)
      obtain ⟨b, off, spot⟩ := x
      have hspot : spot = none := by
        have h := World.cell?_spot (hcells 0 (by omega))
        simpa [Addr.add] using h
      subst hspot
      refine .inr ⟨b, off, rfl, ?_, fun i t hi => ?_⟩
      · have h := hcells 0 (by omega)
        rw [Addr.add_mid] at h
        exact World.block_lt_of_cell? W _ h
      · have hin : i < len := by
          have := (List.getElem?_eq_some_iff.1 hi).1
          rw [List.length_take] at this; omega
        have h := hcells i (by omega)
        rw [Addr.add_mid] at h
        rw [List.getElem?_take_of_lt hin] at hi
        rw [h, List.getD_eq_getElem?_getD, hi]; rfl
    · have h := hwf z (List.mem_of_mem_take hz)
      simpa [in64, Lit.wf, IntKind.min, IntKind.max, IntKind.signed, IntKind.bits] using h
end Go.Proofs.Ytjbhgifdpdnppaa
