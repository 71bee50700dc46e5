/- Names of files: the plain mathematics of their digits; the document's digits, names. -/
import Derived.Test.YtfodnadmabnacaaDoorBase2
import Derived.Test.YtfodnadmabnacaaDoorProg
namespace Go.Proofs.YtfodnadmabnacaaDoor
open Go.RowKit Base Base2

/-- A number's digits. -/
def decL (n : Nat) : List UInt8 := if n < 10 then [UInt8.ofNat (48 + n)] else decL (n / 10) ++ [UInt8.ofNat (48 + n % 10)]
termination_by n
decreasing_by omega
def decB (n : Nat) : ByteArray := ⟨(decL n).toArray⟩
theorem decL_small {n : Nat} (h : n < 10) : decL n = [UInt8.ofNat (48 + n)] := by rw [decL, if_pos h]
theorem decL_more {n : Nat} (h : ¬ n < 10) : decL n = decL (n / 10) ++ [UInt8.ofNat (48 + n % 10)] := by rw [decL, if_neg h]
theorem decB_more {n : Nat} (h : ¬ n < 10) : decB n = decB (n / 10) ++ decB (n % 10) := by
  unfold decB
  rw [decL_more h, decL_small (show n % 10 < 10 by omega)]
  apply ByteArray.ext; simp
/-- The value of digits, behind others. -/
def valL : Nat → List UInt8 → Option Nat
  | acc, [] => some acc
  | acc, c :: l => if c.toNat < 48 ∨ 57 < c.toNat then none else valL (10 * acc + (c.toNat - 48)) l
theorem valL_cons (acc : Nat) (c : UInt8) (l : List UInt8) : valL acc (c :: l) = if c.toNat < 48 ∨ 57 < c.toNat then none else valL (10 * acc + (c.toNat - 48)) l := rfl
theorem valL_app (a b : List UInt8) : ∀ acc, valL acc (a ++ b) = (valL acc a).bind fun m => valL m b := by
  induction a with
  | nil => intro acc; rfl
  | cons c a ih =>
    intro acc
    rw [List.cons_append, valL_cons, valL_cons]
    by_cases hc : c.toNat < 48 ∨ 57 < c.toNat
    · rw [if_pos hc, if_pos hc]; rfl
    · rw [if_neg hc, if_neg hc]; exact ih _
theorem digit_toNat (k : Nat) (h : k < 10) : (UInt8.ofNat (48 + k)).toNat = 48 + k := by
  rw [UInt8.toNat_ofNat']; omega
theorem valL_digit (acc k : Nat) (h : k < 10) : valL acc [UInt8.ofNat (48 + k)] = some (10 * acc + k) := by
  rw [valL_cons, digit_toNat k h, if_neg (by omega)]
  show some (10 * acc + (48 + k - 48)) = _
  congr 1; omega
/-- The digits of a number have its value. -/
theorem valL_dec (n : Nat) : valL 0 (decL n) = some n := by
  induction n using Nat.strongRecOn with
  | _ n ih =>
    by_cases h : n < 10
    · rw [decL_small h, valL_digit 0 n h]; congr 1; omega
    · rw [decL_more h, valL_app, ih (n / 10) (by omega)]
      show valL (n / 10) [UInt8.ofNat (48 + n % 10)] = some n
      rw [valL_digit _ _ (by omega)]
      congr 1; omega
theorem decL_len : ∀ (k n : Nat), n < 10 ^ k → 1 ≤ k → (decL n).length ≤ k ∧ 1 ≤ (decL n).length
  | 0, _, _, h => by omega
  | k + 1, n, h, _ => by
    by_cases hn : n < 10
    · rw [decL_small hn]; simp
    · rw [decL_more hn, List.length_append]
      have hk : 1 ≤ k := by
        rcases Nat.eq_zero_or_pos k with rfl | h0
        · simp at h; omega
        · exact h0
      have := decL_len k (n / 10) (by rw [Nat.pow_succ] at h; omega) hk
      simp; omega
theorem decB_len (n : Nat) (h : n < 9223372036854775808) : 1 ≤ (decB n).size ∧ (decB n).size ≤ 19 := by
  have := decL_len 19 n (by omega) (by omega)
  have e : (decB n).size = (decL n).length := by simp [decB, ByteArray.size]
  omega
end Go.Proofs.YtfodnadmabnacaaDoor
