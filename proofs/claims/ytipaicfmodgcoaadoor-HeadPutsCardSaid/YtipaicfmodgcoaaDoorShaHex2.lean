/- Bytes in digits of base 16: the contract of the document's Hex. -/
import Derived.Test.YtipaicfmodgcoaaDoorShaHex
namespace Go.Proofs.YtipaicfmodgcoaaDoor
open Go.RowKit

theorem hex_slice (d : Nat) (h : d < 16) : (⟨#[48, 49, 50, 51, 52, 53, 54, 55, 56, 57, 97, 98, 99, 100, 101, 102]⟩ : ByteArray).extract d (d + 1) = ⟨#[hexD d]⟩ := by
  match d, h with
  | 0, _ => rfl
  | 1, _ => rfl
  | 2, _ => rfl
  | 3, _ => rfl
  | 4, _ => rfl
  | 5, _ => rfl
  | 6, _ => rfl
  | 7, _ => rfl
  | 8, _ => rfl
  | 9, _ => rfl
  | 10, _ => rfl
  | 11, _ => rfl
  | 12, _ => rfl
  | 13, _ => rfl
  | 14, _ => rfl
  | 15, _ => rfl
  | n + 16, h => omega

theorem hex_sl (d : Nat) (h : d < 16) (W : World) : (Instr.slice 9 (.string ⟨#[48, 49, 50, 51, 52, 53, 54, 55, 56, 57, 97, 98, 99, 100, 101, 102]⟩) (some (.int .u8 (d : Int))) (some (.int .u8 ((d : Int) + 1))) none).run Tryd.prog W = .ok (.string ⟨#[hexD d]⟩) W := by
  have hs : (⟨#[48, 49, 50, 51, 52, 53, 54, 55, 56, 57, 97, 98, 99, 100, 101, 102]⟩ : ByteArray).size = 16 := rfl
  have ht := hex_slice d h
  have e1 : (0 : Int) ≤ (d : Int) + 1 := by omega
  have e2 : (d : Int) ≤ (d : Int) + 1 := by omega
  have e3 : (d : Int) + 1 ≤ ((16 : Nat) : Int) := by omega
  have e4 : ((d : Int) + 1).toNat = d + 1 := by omega
  generalize (⟨#[48, 49, 50, 51, 52, 53, 54, 55, 56, 57, 97, 98, 99, 100, 101, 102]⟩ : ByteArray) = H at *
  rw [← hs] at e3
  simp [Instr.slice, run_underlying Tryd.underlying9, Instr.sliceBounds, run_sliceBound, e1, e2, e3, e4, ht]
end Go.Proofs.YtipaicfmodgcoaaDoor
