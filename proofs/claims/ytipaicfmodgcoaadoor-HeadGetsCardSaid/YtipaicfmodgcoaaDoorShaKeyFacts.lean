/- The document's constants are the numbers that the program writes out. -/
import Derived.Test.YtipaicfmodgcoaaDoorShaHash
namespace Go.Proofs.YtipaicfmodgcoaaDoor
open Go.RowKit

set_option maxRecDepth 100000 in
theorem roots_true : primes64.map (rootV true) = kLit := by decide +kernel
set_option maxRecDepth 100000 in
theorem roots_false : (primes64.map (rootV false)).take 8 = [0x6a09e667, 0xbb67ae85, 0x3c6ef372, 0xa54ff53a, 0x510e527f, 0x9b05688c, 0x1f83d9ab, 0x5be0cd19] := by decide +kernel
theorem kLit_lt : kLit.all (· < 4294967296) = true := by decide +kernel
theorem kLit_len : kLit.length = 64 := rfl
theorem KL_true : KL true = kLit.map fun (n : Nat) => Value.int .u32 (n : Int) := by
  rw [← roots_true, List.map_map]; rfl
theorem KL_false : (KL false).take 8 = (stA st0).toList := by
  have e : (KL false).take 8 = ((primes64.map (rootV false)).take 8).map fun (n : Nat) => Value.int .u32 (n : Int) := by
    unfold KL; rw [← List.map_take, ← List.map_take, List.map_map]; rfl
  rw [e, roots_false]; rfl
theorem kw_toNat (i : Nat) (h : i < 64) : vn (kw i) = ((kLit.getD i 0 : Nat) : Int) := by
  have h1 : kLit.getD i 0 < 4294967296 := by
    have hm : kLit.getD i 0 ∈ kLit := by
      rw [List.getD_eq_getElem?_getD, List.getElem?_eq_getElem (by rw [kLit_len]; exact h)]; exact List.getElem_mem _
    have := List.all_eq_true.1 kLit_lt _ hm
    simpa using this
  unfold vn kw
  rw [BitVec.toNat_ofNat]
  omega
theorem key_k (i : Nat) (h : i < 64) : keyCells[i]? = some (.int .u32 (vn (kw i))) := by
  unfold keyCells
  rw [List.getElem?_toArray, List.getElem?_append_left (by rw [KL_len]; exact h), KL_true, List.getElem?_map, List.getElem?_eq_getElem (by rw [kLit_len]; exact h), kw_toNat i h]
  rw [List.getD_eq_getElem?_getD, List.getElem?_eq_getElem (by rw [kLit_len]; exact h)]
  rfl
theorem key_h (j : Nat) (h : j < 8) : keyCells[64 + j]? = some (.int .u32 (vn (sw st0 j))) := by
  unfold keyCells
  rw [List.getElem?_toArray, List.getElem?_append_right (by rw [KL_len]; omega), KL_len, KL_false, show 64 + j - 64 = j by omega, Array.getElem?_toList, stA_at st0 j h]
end Go.Proofs.YtipaicfmodgcoaaDoor
