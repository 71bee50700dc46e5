/- The split of a count: the contracts of bits.Len64, bits.Len, Split, and the document's Split. -/
import Derived.Test.YtipaicfmodgcoaaDoorTreeMath
import Derived.WalkKit
import Derived.Deep.Cut
import Derived.IntWalk
import Derived.Lib.Hide
import Derived.Lib.Strings
import Derived.Lib.Slices
import Derived.Lib.Small
import Derived.Lib.Walk
import Derived.Lib.BitFns
namespace Go.Proofs.YtipaicfmodgcoaaDoor
open Go.RowKit

theorem log2_bits : ∀ n : Fin 256, Lib.bitLen n.val = if n.val = 0 then 0 else Nat.log2 n.val + 1 := by decide +kernel
theorem log2_shift (x : Nat) (h : 256 ≤ x) : Nat.log2 x = Nat.log2 (x / 256) + 8 := by
  rw [Nat.log2_eq_iff (by omega)]
  have h1 := Nat.log2_self_le (n := x / 256) (by omega)
  have h2 := Nat.lt_log2_self (n := x / 256)
  rw [Nat.pow_succ] at h2
  have e1 : 2 ^ (Nat.log2 (x / 256) + 8) = 2 ^ Nat.log2 (x / 256) * 256 := by rw [Nat.pow_add]
  have e2 : 2 ^ (Nat.log2 (x / 256) + 8 + 1) = 2 ^ Nat.log2 (x / 256) * 512 := by rw [Nat.pow_succ, Nat.pow_add]; omega
  omega

theorem w64 {x : Int} (h0 : -9223372036854775808 ≤ x) (h1 : x ≤ 9223372036854775807) : wrap64 x = x := by unfold wrap64; omega
theorem len8_at (y : Int) (h0 : 0 ≤ y) (h : y < 256) (h2 : y.toNat < Lib.len8tab.size) : wrap64 ((Lib.len8tab[y.toNat]'h2).toNat : Int) = ((if y.toNat = 0 then 0 else Nat.log2 y.toNat + 1 : Nat) : Int) := by
  have e := log2_bits ⟨y.toNat, by omega⟩
  have e2 := Lib.len8_eq ⟨y.toNat, by omega⟩
  have e3 := Lib.bitLen_le8 ⟨y.toNat, by omega⟩
  simp only at e e2 e3
  rw [← e]
  have e4 : Lib.len8 (y.toNat : Int) = ((Lib.len8tab[y.toNat]'h2).toNat : Int) := by
    unfold Lib.len8
    rw [Int.toNat_natCast, getElem?_pos Lib.len8tab y.toNat h2]
    rfl
  rw [← e4, e2, w64 (by omega) (by omega)]
end Go.Proofs.YtipaicfmodgcoaaDoor
