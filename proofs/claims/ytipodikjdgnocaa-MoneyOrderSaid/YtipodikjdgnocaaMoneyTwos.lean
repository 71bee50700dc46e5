/- A row of pairs of numbers, as a law's argument. -/
import Derived.Test.YtipodikjdgnocaaMoneyMem
import Derived.Deep.SlicePairs
import Derived.ProofKit
import Derived.OpenShut
namespace Go.Proofs.Ytipodikjdgnocaa
open Go.ChangeShapes Go.WideShapes Go.ChangeAt Go.RowKit Go.Lib Base

/-- A row of pairs from an address on. -/
def TwosAt (W : World) (a : Option Addr) (l : List (Int × Int)) : Prop :=
  l = [] ∨ ∃ b off, a = some ⟨b, off, none⟩ ∧ b < W.heap.size ∧ ∀ (i : Nat) (p : Int × Int), l[i]? = some p → W.cell? ⟨b, off + i * 2, none⟩ = some (.int .i64 p.1) ∧ W.cell? ⟨b, off + i * 2 + 1, none⟩ = some (.int .i64 p.2)
theorem TwosAt.below {W W' : World} {a : Option Addr} {l : List (Int × Int)} (h : TwosAt W a l) (hb : Below W.heap.size W W') : TwosAt W' a l := by
  rcases h with h | ⟨b, off, rfl, h1, h2⟩
  · exact .inl h
  · exact .inr ⟨b, off, rfl, Nat.lt_of_lt_of_le h1 hb.size, fun i p hi => ⟨(hb.cell (p := ⟨b, off + i * 2, none⟩) h1).trans (h2 i p hi).1, (hb.cell (p := ⟨b, off + i * 2 + 1, none⟩) h1).trans (h2 i p hi).2⟩⟩
/-- A number of 64 bits. -/
def In64 (z : Int) : Prop := -9223372036854775808 ≤ z ∧ z ≤ 9223372036854775807
theorem cells40 : Try.prog.cellsOf 41 = 2 := by kernel_rfl
theorem cells2 : Try.prog.cellsOf 2 = 1 := by kernel_rfl
theorem open_twos {H : Type} {enc : TypeId × Value → H} {W : World} {base : Nat} {spare : Nat → Bool} {held : Bool} {a : Option Addr} {len cap : Nat} {d : DataW H} {ps : List MemPlace}
    (h : DataW.Trod enc Try.prog W base spare held 34 (.slice a len cap) d ps) : ∃ l : List (Int × Int), l.length = len ∧ TwosAt W a l ∧ len ≤ maxLen ∧ len ≤ cap ∧ ∀ p ∈ l, In64 p.1 ∧ In64 p.2 := by
  obtain ⟨fuel, hf⟩ := h
  rcases Go.Deep.open_slice_pairs Try.underlying34 Try.underlying41 cells40 rfl rfl cells2 cells2 hf with ⟨hcs, _⟩ | ⟨x, l, c, m, n, V0, V1, D0, D1, P0, P1, hcs, _, hl, hm, hmm, _, hcells⟩
  · simp [Value.cells] at hcs
    obtain ⟨rfl, rfl, rfl⟩ := hcs
    exact ⟨[], rfl, .inl rfl, by unfold maxLen; omega, Nat.le_refl _, by simp⟩
  · simp [Value.cells] at hcs
    obtain ⟨rfl, rfl, rfl⟩ := hcs
    have hlm : len ≤ m := by rw [hmm]; split <;> omega
    have hv : ∀ i, i < len → ∃ p : Int × Int, V0 i = .int .i64 p.1 ∧ V1 i = .int .i64 p.2 ∧ In64 p.1 ∧ In64 p.2 := fun i hi => by
      obtain ⟨_, _, h3, h4⟩ := hcells i (by omega)
      obtain ⟨n0, e0, _, w0⟩ := DataW.trod_int Try.underlying2 h3
      obtain ⟨n1, e1, _, w1⟩ := DataW.trod_int Try.underlying2 h4
      simp at e0 e1
      refine ⟨(n0, n1), e0, e1, ?_, ?_⟩
      · simpa [In64, Lit.wf, IntKind.min, IntKind.max, IntKind.signed, IntKind.bits] using w0
      · simpa [In64, Lit.wf, IntKind.min, IntKind.max, IntKind.signed, IntKind.bits] using w1
    have hch : ∃ f : Nat → Int × Int, ∀ i, i < len → V0 i = .int .i64 (f i).1 ∧ V1 i = .int .i64 (f i).2 ∧ In64 (f i).1 ∧ In64 (f i).2 := by
      refine ⟨fun i => if h : i < len then (hv i h).choose else (0, 0), fun i hi => ?_⟩
      simp only [dif_pos hi]
      exact (hv i hi).choose_spec
    obtain ⟨f, hf2⟩ := hch
    refine ⟨(List.range len).map f, by simp, ?_, by omega, hl, fun p hp => ?_⟩
    · by_cases h00 : len = 0
      · subst h00; exact .inl rfl
      · obtain ⟨b, off, spot⟩ := x
        have hspot : spot = none := by
          have h := World.cell?_spot (hcells 0 (by omega)).1
          simpa [Addr.add] using h
        subst hspot
        refine .inr ⟨b, off, rfl, ?_, fun i p hi => ?_⟩
        · have h := (hcells 0 (by omega)).1
          rw [Addr.add_mid] at h
          exact World.block_lt_of_cell? W _ h
        · have hin : i < len := by simpa using (List.getElem?_eq_some_iff.1 hi).1
          have h := hcells i (by omega)
          rw [Addr.add_mid, Addr.add_mid] at h
          have e := hf2 i hin
          simp [hin] at hi
          subst hi
          exact ⟨by rw [h.1, e.1], by rw [Nat.add_assoc, h.2.1, e.2.1]⟩
    · obtain ⟨i, hi, rfl⟩ := List.mem_map.1 hp
      have e := hf2 i (List.mem_range.1 hi)
      exact ⟨e.2.2.1, e.2.2.2⟩
end Go.Proofs.Ytipodikjdgnocaa
