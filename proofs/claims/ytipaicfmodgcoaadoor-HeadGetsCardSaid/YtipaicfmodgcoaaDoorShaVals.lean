/- Words as values: what the walk's sums and bit operations make of them; the contracts of turn, move, right. -/
import Derived.Test.YtipaicfmodgcoaaDoorShaMath
import Derived.Test.YtipaicfmodgcoaaDoorShaTurn
namespace Go.Proofs.YtipaicfmodgcoaaDoor
open Go.RowKit

/-- A word as a number. -/
def vn (x : Wd) : Int := (x.toNat : Int)
theorem wv_vn (x : Wd) : wv x = .int .u32 (vn x) := rfl
theorem vn_lo (x : Wd) : 0 ≤ vn x := by unfold vn; omega
theorem vn_hi (x : Wd) : vn x < 4294967296 := by have := x.isLt; unfold vn; omega
theorem vn_add (x y : Wd) : (vn x + vn y) % 4294967296 = vn (x + y) := by unfold vn; rw [BitVec.toNat_add]; omega
theorem vn_addw (x y : Wd) : IntKind.u32.wrap (vn x + vn y) = vn (x + y) := by rw [IntKind.wrap_u32]; exact vn_add x y
theorem vn_xor (x y : Wd) : bits .xor .u32 (vn x) (vn y) = vn (x ^^^ y) := by
  unfold vn; rw [u32_xor_nat _ _ x.isLt y.isLt, BitVec.toNat_xor]
theorem vn_or (x y : Wd) : bits .or .u32 (vn x) (vn y) = vn (x ||| y) := by
  unfold vn; rw [u32_or_nat _ _ x.isLt y.isLt, BitVec.toNat_or]
theorem vn_and (x y : Wd) : bits .and .u32 (vn x) (vn y) = vn (x &&& y) := by
  unfold vn; rw [u32_and_nat _ _ x.isLt y.isLt, BitVec.toNat_and]
theorem vn_not (x : Wd) : 4294967295 - vn x = vn (~~~x) := by
  have := x.isLt
  unfold vn; rw [BitVec.toNat_not]; omega
theorem turn_v (x : Wd) (n : Nat) (w : World) (h0 : 0 < n) (h1 : n < 32) :
    Calls Tryd.prog 54 #[.int .u32 (vn x), .int .i64 (n : Int)] w fun e w' => e = .returned (.int .u32 (vn (ror x n))) ∧ w = w' := turn12 x n w h0 h1
theorem move_v (x : Wd) (n : Nat) (w : World) (h1 : n < 32) :
    Calls Tryd.prog 55 #[.int .u32 (vn x), .int .i64 (n : Int)] w fun e w' => e = .returned (.int .u32 (vn (x >>> n))) ∧ w = w' := move13 x n w h1

theorem rot_and (n m : Nat) (h0 : 0 < n) (h : m + n = 32) : bits .and .u64 (IntKind.u64.wrap (-(n : Int))) 31 = (m : Int) := by
  have e : IntKind.u64.wrap (-(n : Int)) = ((18446744073709551616 - n : Nat) : Int) := by rw [IntKind.wrap_u64]; omega
  rw [e, show (31 : Int) = ((31 : Nat) : Int) from rfl, u64_and_nat _ _ (by omega) (by omega), show (31 : Nat) = 2 ^ 5 - 1 from rfl, Nat.and_two_pow_sub_one_eq_mod]
  congr 1; omega

theorem right_v (x : Wd) (n : Nat) (w : World) (h0 : 0 < n) (h1 : n < 32) :
    Calls Tryd.prog 85 #[.int .u32 (vn x), .int .i64 (n : Int)] w fun e w' => e = .returned (.int .u32 (vn (ror x n))) ∧ w = w' := by
  have hx := x.isLt
  obtain ⟨m, hm⟩ : ∃ m, m + n = 32 := ⟨32 - n, by omega⟩
  obtain ⟨a, ha⟩ : ∃ a, a = x.toNat := ⟨_, rfl⟩
  have HR : Hid (Value.int .u32 (vn (ror x n)) = .int .u32 (bits BinOp.or IntKind.u32 ((a : Int) * 2 ^ m % 4294967296) ((a : Int) / 2 ^ n))) := by
    show _ = _
    unfold vn ror
    have e2 : ((a : Int) / 2 ^ n) = ((a / 2 ^ n : Nat) : Int) := by simp
    have e3 : ((a : Int) * 2 ^ m % 4294967296) = ((a * 2 ^ m % 4294967296 : Nat) : Int) := by simp
    rw [e2, e3, u32_or_nat _ _ (Nat.mod_lt _ (by omega)) (by rw [← ha] at hx; exact Nat.lt_of_le_of_lt (Nat.div_le_self _ _) hx)]
    rw [BitVec.toNat_or, BitVec.toNat_ushiftRight, BitVec.toNat_shiftLeft, Nat.shiftRight_eq_div_pow, Nat.shiftLeft_eq, ← ha, show 32 - n = m from by omega, Nat.or_comm]
  have hb := rot_and n m h0 hm
  have hs : (32 : Int) - (m : Int) = (n : Int) := by omega
  unfold vn at *
  rw [← ha] at hx ⊢
  clear ha
  have h2 : m < 32 := by omega
  go_enter Tryd.func85, Tryd.ntmps85
  go_wp2
  go_ret
  exact ⟨by rw [HR.out]; rfl, rfl⟩
end Go.Proofs.YtipaicfmodgcoaaDoor
