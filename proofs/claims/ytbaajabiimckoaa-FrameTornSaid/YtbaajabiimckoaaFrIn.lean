/- Arguments that come in: a slice of texts, a slice of numbers of 16 bits. -/
import Derived.WalkKit
import Derived.ProofKit
import Derived.OpenShut
import Derived.Below
import Derived.ChangeSlices
import Derived.Deep.Strs
import Derived.Test.YtbaajabiimckoaaFrBytes
namespace Go.Proofs.Ytbaajabiimckoaa
open Go.ChangeShapes Go.WideShapes Go.ChangeAt Go.RowKit

theorem cellsStr : Try.prog.cellsOf 9 = 1 := by kernel_rfl
theorem cellsU16 : Try.prog.cellsOf 40 = 1 := by kernel_rfl
theorem laidOut : laidOutB Try.prog = true := by kernel_rfl
theorem open_strsT {H : Type} {enc : TypeId × Value → H} {W : World} {base : Nat} {spare : Nat → Bool} {held : Bool} {a : Option Addr} {len cap : Nat} {d : DataW H} {ps : List MemPlace}
    (h : DataW.Trod enc Try.prog W base spare held 30 (.slice a len cap) d ps) : ∃ l : List ByteArray, l.length = len ∧ StrsAt W a l ∧ len ≤ maxLen ∧ len ≤ cap := by
  obtain ⟨fuel, hf⟩ := h
  rcases Go.Deep.open_strs Try.underlying30 Try.underlying9 cellsStr hf with ⟨hcs, _⟩ | ⟨x, l, c, m, Sx, hcs, _, hl, hm, hmm, _, hcells⟩
  · simp [Value.cells] at hcs
    obtain ⟨rfl, rfl, rfl⟩ := hcs
    exact ⟨[], rfl, .inl rfl, by unfold maxLen; omega, Nat.le_refl _⟩
  · simp [Value.cells] at hcs
    obtain ⟨rfl, rfl, rfl⟩ := hcs
    refine ⟨(List.range len).map Sx, by simp, ?_, by omega, hl⟩
    by_cases h00 : len = 0
    · subst h00; exact .inl rfl
    · have hlm : len ≤ m := by rw [hmm]; split <;> omega
      obtain ⟨b, off, spot⟩ := x
      have hspot : spot = none := by
        have h := World.cell?_spot (hcells 0 (by omega)).1
        simpa [Addr.add] using h
      subst hspot
      refine .inr ⟨b, off, rfl, ?_, fun i t hi => ?_⟩
      · have h := (hcells 0 (by omega)).1
        rw [Addr.add_mid] at h
        exact World.block_lt_of_cell? W _ h
      · have hin : i < len := by simpa using (List.getElem?_eq_some_iff.1 hi).1
        have h := (hcells i (by omega)).1
        rw [Addr.add_mid] at h
        simp [hin] at hi
        rw [h, hi]
theorem open_u16s {H : Type} {enc : TypeId × Value → H} {W : World} {base : Nat} {spare : Nat → Bool} {held : Bool} {a : Option Addr} {len cap : Nat} {d : DataW H} {ps : List MemPlace}
    (h : DataW.Trod enc Try.prog W base spare held 39 (.slice a len cap) d ps) : ∃ l : List Nat, l.length = len ∧ KeptAt W a l ∧ len ≤ maxLen ∧ len ≤ cap := by
  obtain ⟨fuel, hf⟩ := h
  rcases open_ints Try.underlying39 Try.underlying40 cellsU16 hf with ⟨hcs, _⟩ | ⟨x, l, c, zs, hcs, _, hl, hm, hmm, _, hcells, hwf⟩
  · simp [Value.cells] at hcs
    obtain ⟨rfl, rfl, rfl⟩ := hcs
    exact ⟨[], rfl, ⟨by simp, .inl rfl⟩, by unfold maxLen; omega, Nat.le_refl _⟩
  · simp [Value.cells] at hcs
    obtain ⟨rfl, rfl, rfl⟩ := hcs
    have hlm : len ≤ zs.length := by rw [hmm]; split <;> omega
    have hw : ∀ z ∈ zs, 0 ≤ z ∧ z ≤ 65535 := fun z hz => by
      simpa [Lit.wf, IntKind.min, IntKind.max, IntKind.signed, IntKind.bits] using hwf z hz
    refine ⟨(zs.take len).map Int.toNat, by simp; omega, ⟨fun k hk => ?_, ?_⟩, by omega, hl⟩
    · obtain ⟨z, hz, rfl⟩ := List.mem_map.1 hk
      have := hw z (List.mem_of_mem_take hz)
      omega
    by_cases h00 : len = 0
    · subst h00; exact .inl rfl
    · obtain ⟨b, off, spot⟩ := x
      have hspot : spot = none := by
        have h := World.cell?_spot (hcells 0 (by omega))
        simpa [Addr.add] using h
      subst hspot
      refine .inr ⟨b, off, rfl, ?_, fun i t hi => ?_⟩
      · have h := hcells 0 (by omega)
        rw [Addr.add_mid] at h
        exact World.block_lt_of_cell? W _ h
      · have hin : i < len := by
          have := (List.getElem?_eq_some_iff.1 hi).1
          simp at this; omega
        have h := hcells i (by omega)
        rw [Addr.add_mid] at h
        have hz : zs[i]? = some (zs.getD i 0) := by
          rw [List.getElem?_eq_getElem (show i < zs.length by omega), List.getD_eq_getElem?_getD, List.getElem?_eq_getElem (show i < zs.length by omega)]; rfl
        rw [List.getElem?_map, List.getElem?_take_of_lt hin, hz] at hi
        simp only [Option.map_some, Option.some.injEq] at hi
        have := hw _ (List.mem_of_getElem? hz)
        rw [h, ← hi]
        congr 2
        omega
end Go.Proofs.Ytbaajabiimckoaa
