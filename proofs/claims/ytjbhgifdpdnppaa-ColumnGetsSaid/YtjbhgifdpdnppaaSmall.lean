/- Contracts of the functions that turn a number with a sign in and out (the program's and the document's), and of the library's Clone: what each returns, for every argument. -/
import Derived.Test.YtjbhgifdpdnppaaRows
import Derived.Test.YtjbhgifdpdnppaaMath
import Derived.WalkKit
import Derived.IntWalk
import Derived.Lib.Strings
import Derived.Lib.Walk
import Derived.Lib.BufferWrite
import Derived.Lib.UnsafeStr
import Derived.Lib.Hide
import Derived.Laws.MakeOwn
namespace Go.Proofs.Ytjbhgifdpdnppaa
open Go.RowKit

theorem ret_intN {k : IntKind} {a b : Int} (h : a = b) : Ending.returned (.int k a) = .returned (.int k b) := by rw [h]

theorem xor_ones_u64 (a : Nat) (ha : a < 18446744073709551616) : bits .xor .u64 (a : Int) 18446744073709551615 = 18446744073709551615 - (a : Int) := by
  show IntKind.u64.wrap ((BitVec.ofInt 64 (a : Int) ^^^ BitVec.ofInt 64 18446744073709551615).toNat : Int) = _
  have e : (BitVec.ofInt 64 18446744073709551615) = BitVec.allOnes 64 := by decide
  rw [e, BitVec.xor_allOnes, BitVec.toNat_not, ofInt_u64 a ha, IntKind.wrap_u64]
  omega
theorem xor_zero_u64 (a : Nat) (ha : a < 18446744073709551616) : bits .xor .u64 (a : Int) 0 = (a : Int) := by
  have := u64_xor_nat a 0 ha (by omega)
  simpa using this
theorem xor_zero_i64 (a : Nat) (ha : a < 9223372036854775808) : bits .xor .i64 (a : Int) 0 = (a : Int) := by
  show IntKind.i64.wrap ((BitVec.ofInt 64 (a : Int) ^^^ BitVec.ofInt 64 0).toNat : Int) = _
  have e : (BitVec.ofInt 64 0) = 0#64 := by decide
  rw [e, BitVec.xor_zero, ofInt_u64 a (by omega), IntKind.wrap_i64]
  omega
theorem xor_ones_i64 (a : Nat) (ha : a < 9223372036854775808) : bits .xor .i64 (a : Int) (-1) = -1 - (a : Int) := by
  show IntKind.i64.wrap ((BitVec.ofInt 64 (a : Int) ^^^ BitVec.ofInt 64 (-1)).toNat : Int) = _
  have e : (BitVec.ofInt 64 (-1)) = BitVec.allOnes 64 := by decide
  rw [e, BitVec.xor_allOnes, BitVec.toNat_not, ofInt_u64 a (by omega), IntKind.wrap_i64]
  omega

theorem zig_bits (m : Int) (h1 : -9223372036854775808 ≤ m) (h2 : m ≤ 9223372036854775807) :
    bits BinOp.xor IntKind.u64 (IntKind.u64.wrap (IntKind.u64.wrap m * 2)) (IntKind.u64.wrap (m / 9223372036854775808)) = M.zig m := by
  simp only [IntKind.wrap_u64]
  by_cases h : 0 ≤ m
  · have e1 : m % 18446744073709551616 * 2 % 18446744073709551616 = ((m * 2).toNat : Int) := by omega
    have e2 : m / 9223372036854775808 % 18446744073709551616 = 0 := by omega
    rw [e1, e2, xor_zero_u64 _ (by omega)]
    unfold M.zig; rw [if_pos h]; omega
  · have e1 : m % 18446744073709551616 * 2 % 18446744073709551616 = ((m * 2 + 18446744073709551616).toNat : Int) := by omega
    have e2 : m / 9223372036854775808 % 18446744073709551616 = 18446744073709551615 := by omega
    rw [e1, e2, xor_ones_u64 _ (by omega)]
    unfold M.zig; rw [if_neg h]; omega

theorem zag_bits (n : Int) (h1 : 0 ≤ n) (h2 : n ≤ 18446744073709551615) :
    bits BinOp.xor IntKind.i64 (n / 2) (wrap64 (-wrap64 (bits BinOp.and IntKind.u64 n 1))) = M.zag n := by
  have e : bits BinOp.and IntKind.u64 n 1 = n % 2 := by
    rw [u64_and n 1 h1 (by omega) (by omega) (by omega)]
    show ((n.toNat &&& 1 : Nat) : Int) = _
    rw [nat_mask1]; omega
  rw [e]
  obtain ⟨a, ha⟩ : ∃ a : Nat, n / 2 = (a : Int) := ⟨(n / 2).toNat, by omega⟩
  unfold M.zag
  rcases Int.emod_two_eq n with h | h
  · rw [h, show wrap64 (-wrap64 0) = 0 from by decide +kernel, ha, xor_zero_i64 a (by omega)]; rfl
  · rw [h, show wrap64 (-wrap64 1) = -1 from by decide +kernel, ha, xor_ones_i64 a (by omega), if_neg (by omega)]; omega

theorem zig15 (m : Int) (w : World) (h1 : -9223372036854775808 ≤ m) (h2 : m ≤ 9223372036854775807) :
    Calls Try.prog 34 #[.int .i64 m] w fun e w' => e = .returned (.int .u64 (M.zig m)) ∧ w = w' := by
  by_cases h : 0 ≤ m
  · have HZ : Hid (M.zig m = 2 * m) := by show M.zig m = 2 * m; unfold M.zig; rw [if_pos h]
    go_enter Try.func34, Try.ntmps34
    go_wp2
    go_ret
    exact ⟨ret_intN HZ.out.symm, rfl⟩
  · have HZ : Hid (M.zig m = 2 * -(m + 1) + 1) := by show M.zig m = _; unfold M.zig; rw [if_neg h]; omega
    go_enter Try.func34, Try.ntmps34
    go_wp2
    go_ret
    exact ⟨ret_intN HZ.out.symm, rfl⟩

theorem zag17 (n : Int) (w : World) (h1 : 0 ≤ n) (h2 : n ≤ 18446744073709551615) :
    Calls Try.prog 44 #[.int .u64 n] w fun e w' => e = .returned (.int .i64 (M.zag n)) ∧ w = w' := by
  rcases Int.emod_two_eq n with h | h
  · have HZ : Hid (M.zag n = n / 2) := by show M.zag n = _; unfold M.zag; rw [if_pos h]
    have hb : (n % 2 == 0) = true := by simpa using h
    clear h
    go_enter Try.func44, Try.ntmps44
    go_wp2
    go_ret
    exact ⟨ret_intN HZ.out.symm, rfl⟩
  · have HZ : Hid (M.zag n = -(n / 2) - 1) := by show M.zag n = _; unfold M.zag; rw [if_neg (by omega)]
    have hb : (n % 2 == 0) = false := by rw [beq_eq_false_iff_ne]; omega
    clear h
    go_enter Try.func44, Try.ntmps44
    go_wp2
    go_ret
    exact ⟨ret_intN HZ.out.symm, rfl⟩

theorem zig14 (m : Int) (w : World) (h1 : -9223372036854775808 ≤ m) (h2 : m ≤ 9223372036854775807) :
    Calls Try.prog 33 #[.int .i64 m] w fun e w' => e = .returned (.int .u64 (M.zig m)) ∧ w = w' := by
  have HZ := Lib.hid (zig_bits m h1 h2)
  go_enter Try.func33, Try.ntmps33
  go_wp2
  go_ret
  exact ⟨ret_intN HZ.out, rfl⟩

theorem zag16 (n : Int) (w : World) (h1 : 0 ≤ n) (h2 : n ≤ 18446744073709551615) :
    Calls Try.prog 49 #[.int .u64 n] w fun e w' => e = .returned (.int .i64 (M.zag n)) ∧ w = w' := by
  have HZ := Lib.hid (zag_bits n h1 h2)
  go_enter Try.func49, Try.ntmps49
  go_wp2
  go_ret
  exact ⟨ret_intN HZ.out, rfl⟩

/-- What is told of bytes: how large one is. -/
theorem info5N : (Try.prog.info? 5).map (fun i => (i.zero, i.size, i.bytes)) = some (some (.int .u8 0), 1, 1) := by kernel_rfl
end Go.Proofs.Ytjbhgifdpdnppaa
