/- The contracts of turn and move: words of 32 bits. -/
import Derived.Test.YtipaicfmodgcoaaDoorShaRoot
namespace Go.Proofs.YtipaicfmodgcoaaDoor
open Go.RowKit

/-- A word turned to the right. -/
def turnR (x : BitVec 32) (n : Nat) : BitVec 32 := (x >>> n) ||| (x <<< (32 - n))
/-- A word as a value. -/
def wv (x : BitVec 32) : Value := .int .u32 (x.toNat : Int)

theorem move13 (x : BitVec 32) (n : Nat) (w : World) (h1 : n < 32) :
    Calls Tryd.prog 55 #[wv x, .int .i64 (n : Int)] w fun e w' => e = .returned (wv (x >>> n)) ∧ w = w' := by
  have hx := x.isLt
  obtain ⟨a, ha⟩ : ∃ a, a = x.toNat := ⟨_, rfl⟩
  have HR : Hid (wv (x >>> n) = .int .u32 ((a : Int) / 2 ^ n)) := by
    show _ = _
    unfold wv
    rw [BitVec.toNat_ushiftRight, Nat.shiftRight_eq_div_pow, ← ha]
    simp
  unfold wv at *
  rw [← ha] at hx ⊢
  clear ha
  go_enter Tryd.func55, Tryd.ntmps55
  go_wp2
  go_ret
  exact ⟨by rw [HR.out]; rfl, rfl⟩

theorem turn12 (x : BitVec 32) (n : Nat) (w : World) (h0 : 0 < n) (h1 : n < 32) :
    Calls Tryd.prog 54 #[wv x, .int .i64 (n : Int)] w fun e w' => e = .returned (wv (turnR x n)) ∧ w = w' := by
  have hx := x.isLt
  obtain ⟨a, ha⟩ : ∃ a, a = x.toNat := ⟨_, rfl⟩
  have HR : Hid (wv (turnR x n) = .int .u32 (bits BinOp.or IntKind.u32 ((a : Int) / 2 ^ n) ((a : Int) * 2 ^ (32 - n) % 4294967296))) := by
    show _ = _
    unfold wv turnR
    have e2 : ((a : Int) / 2 ^ n) = ((a / 2 ^ n : Nat) : Int) := by simp
    have e3 : ((a : Int) * 2 ^ (32 - n) % 4294967296) = ((a * 2 ^ (32 - n) % 4294967296 : Nat) : Int) := by simp
    rw [e2, e3, u32_or_nat _ _ (by rw [← ha] at hx; exact Nat.lt_of_le_of_lt (Nat.div_le_self _ _) hx) (Nat.mod_lt _ (by omega))]
    rw [BitVec.toNat_or, BitVec.toNat_ushiftRight, BitVec.toNat_shiftLeft, Nat.shiftRight_eq_div_pow, Nat.shiftLeft_eq, ← ha]
  unfold wv at *
  rw [← ha] at hx ⊢
  clear ha
  go_enter Tryd.func54, Tryd.ntmps54
  go_wp2
  go_ret
  exact ⟨by rw [HR.out]; rfl, rfl⟩
end Go.Proofs.YtipaicfmodgcoaaDoor
