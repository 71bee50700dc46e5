/- The plain mathematics of numbers as bytes: what is written, what is read, and that one undoes the other. Nothing here speaks of the program. Contracts of the functions that turn a number with a sign in and out (the program's and the document's), and of the library's Clone: what each returns, for every argument. Contracts of Num, the program's and the document's: whatever number comes, both return the bytes that the plain mathematics names. Contracts of the small writers and of what reads the number that stands next, the program's and the document's: for every bytes, the number, how many bytes it has, and the fault, as the plain mathematics names them. Contracts of the looks of the program's Reader: what each of its closures makes of the bytes that are left. Contracts of the closures through which every call of the program's Reader goes: what becomes of the reader, for every look. Contracts of what the program's Reader answers through a look: the value if neither the reader nor the look faults, else zero. Contracts of what the program's Reader answers where it faulted before, or is nil: zero. Contracts of the calls of the program's Reader: what each answers, and what becomes of the reader. Contracts of Fail of the program's Reader, of one that is nil too. Contracts of the document's reader: of, and its Num. Contracts of the other calls of the document's reader but Row. -/
import Derived.Below
import Derived.Test.YtnhljfhpfpfniaaGreatRows
import Derived.WalkKit
import Derived.IntWalk
import Derived.Lib.Strings
import Derived.Lib.Walk
import Derived.Lib.BufferWrite
import Derived.Lib.UnsafeStr
import Derived.Lib.Hide
import Derived.Laws.MakeOwn
import Derived.Laws.IdiomStrings
import Derived.Deep.RegionWith
import Derived.StillTailTactics
import Derived.BigQuiet
import Derived.Deep.QuietTactic
namespace Go.Proofs.YtnhljfhpfpfniaaGreat.M

/-- A number's bytes: so many rounds at most. -/
def encF : Nat → Nat → List UInt8
  | 0, n => [UInt8.ofNat n]
  | f + 1, n => if n < 128 then [UInt8.ofNat n] else UInt8.ofNat (n % 128 + 128) :: encF f (n / 128)

/-- A number's bytes (below 2 to the 64: at most ten). -/
def enc (n : Nat) : List UInt8 := encF 9 n

def encB (n : Nat) : ByteArray := ⟨(enc n).toArray⟩

/-- What is read from the place k on, n being what came: the number, how many bytes, the fault. -/
def dig : List UInt8 → Nat → Nat → Nat × Nat × Int
  | [], _, _ => (0, 0, 2)
  | c :: r, k, n =>
    if (k = 9 ∧ 1 < c.toNat) ∨ (0 < k ∧ c.toNat = 0) then (0, 0, 3)
    else if c.toNat < 128 then (n + c.toNat % 128 * 128 ^ k, k + 1, 0)
    else dig r (k + 1) (n + c.toNat % 128 * 128 ^ k)

/-- The number with which a row begins. -/
def num (s : List UInt8) : Nat × Nat × Int := dig s 0 0

theorem encF_len (f n : Nat) : 0 < (encF f n).length ∧ (encF f n).length ≤ f + 1 := by
  induction f generalizing n with
  | zero => simp [encF]
  | succ f ih =>
    unfold encF
    split
    · simp
    · have := ih (n / 128); simp; omega

theorem enc_len (n : Nat) : 0 < (enc n).length ∧ (enc n).length ≤ 10 := encF_len 9 n

theorem encF_more (f g n : Nat) (h : n < 128 ^ (f + 1)) (hg : f ≤ g) : encF g n = encF f n := by
  induction f generalizing n g with
  | zero =>
    cases g with
    | zero => rfl
    | succ g => unfold encF; rw [if_pos (by simpa using h)]
  | succ f ih =>
    cases g with
    | zero => omega
    | succ g =>
      unfold encF
      split
      · rfl
      · rw [ih g (n / 128) (by rw [Nat.pow_succ] at h; omega) (by omega)]

/-- The first step of a number's bytes. -/
theorem enc_lt (n : Nat) (h : n < 128) : enc n = [UInt8.ofNat n] := by
  unfold enc encF; rw [if_pos h]
theorem enc_ge (n : Nat) (h : 128 ≤ n) (h2 : n < 18446744073709551616) : enc n = UInt8.ofNat (n % 128 + 128) :: enc (n / 128) := by
  unfold enc
  rw [encF, if_neg (by omega), encF_more 8 9 (n / 128) (by omega) (by omega)]

theorem toNat_lo (n : Nat) (h : n < 128) : (UInt8.ofNat n).toNat = n := by simp; omega
theorem toNat_hi (n : Nat) : (UInt8.ofNat (n % 128 + 128)).toNat = n % 128 + 128 := by simp; omega

theorem pow_le9 (k : Nat) (h : k ≤ 9) : 128 ^ k ≤ 9223372036854775808 :=
  Nat.le_trans (Nat.pow_le_pow_right (by omega) h) (by decide)

/-- WHAT IS WRITTEN IS READ AS IT WAS, with whatever behind it. -/
theorem dig_encF (f m : Nat) : ∀ (k n : Nat) (r : List UInt8), f + k = 9 → m * 128 ^ k < 18446744073709551616 → (0 < k → 0 < m) →
    dig (encF f m ++ r) k n = (n + m * 128 ^ k, k + (encF f m).length, 0) := by
  induction f generalizing m with
  | zero =>
    intro k n r hk hm h0
    obtain rfl : k = 9 := by omega
    have hm2 : m < 2 := by
      have : (128 : Nat) ^ 9 = 9223372036854775808 := by decide
      rw [this] at hm; omega
    have h0' := h0 (by omega)
    obtain rfl : m = 1 := by omega
    simp [encF, dig]
  | succ f ih =>
    intro k n r hk hm h0
    have hp : 0 < 128 ^ k := Nat.pow_pos (by omega)
    unfold encF
    by_cases h : m < 128
    · rw [if_pos h]
      simp only [List.cons_append, List.nil_append, dig, toNat_lo m h, List.length_singleton]
      have hz : ¬ ((k = 9 ∧ 1 < m) ∨ (0 < k ∧ m = 0)) := by
        rintro (⟨a, _⟩ | ⟨a, b⟩)
        · omega
        · have := h0 a; omega
      rw [if_neg hz, if_pos h, Nat.mod_eq_of_lt h]
    · rw [if_neg h]
      simp only [List.cons_append, dig, toNat_hi, List.length_cons]
      have hz : ¬ ((k = 9 ∧ 1 < m % 128 + 128) ∨ (0 < k ∧ m % 128 + 128 = 0)) := by
        rintro (⟨a, _⟩ | ⟨a, b⟩) <;> omega
      rw [if_neg hz, if_neg (by omega)]
      have hsplit : m * 128 ^ k = m % 128 * 128 ^ k + m / 128 * 128 ^ (k + 1) := by
        have e := Nat.div_add_mod m 128
        calc m * 128 ^ k = (128 * (m / 128) + m % 128) * 128 ^ k := by rw [e]
          _ = m % 128 * 128 ^ k + m / 128 * 128 ^ (k + 1) := by
            rw [Nat.add_mul, Nat.pow_succ, Nat.add_comm, Nat.mul_comm 128 (m / 128), Nat.mul_assoc, Nat.mul_comm 128 (128 ^ k)]
      have hmod : (m % 128 + 128) % 128 = m % 128 := by omega
      rw [hmod, ih (m / 128) (k + 1) _ r (by omega) (by omega) (by omega)]
      rw [hsplit]
      simp only [Prod.mk.injEq]
      exact ⟨by omega, by omega, trivial⟩

theorem num_enc (n : Nat) (r : List UInt8) (h : n < 18446744073709551616) : num (enc n ++ r) = (n, (enc n).length, 0) := by
  unfold num enc
  rw [dig_encF 9 n 0 0 r rfl (by simpa using h) (by omega)]
  simp

/-- The shape of what is read: no fault, and then it is at least one byte, and no more than there are; or a fault, and nothing. -/
theorem dig_form (s : List UInt8) : ∀ k n, ((dig s k n).2.2 = 0 ∧ k < (dig s k n).2.1 ∧ (dig s k n).2.1 ≤ k + s.length) ∨ ((dig s k n).1 = 0 ∧ (dig s k n).2.1 = 0 ∧ ((dig s k n).2.2 = 2 ∨ (dig s k n).2.2 = 3)) := by
  induction s with
  | nil => intro k n; right; simp [dig]
  | cons c r ih =>
    intro k n
    unfold dig
    split
    · right; simp
    · split
      · left; simp
      · rcases ih (k + 1) (n + c.toNat % 128 * 128 ^ k) with ⟨a, b, d⟩ | h
        · left; exact ⟨a, by omega, by simp; omega⟩
        · right; exact h

theorem num_form (s : List UInt8) : ((num s).2.2 = 0 ∧ 0 < (num s).2.1 ∧ (num s).2.1 ≤ s.length) ∨ ((num s).1 = 0 ∧ (num s).2.1 = 0 ∧ ((num s).2.2 = 2 ∨ (num s).2.2 = 3)) := by
  have := dig_form s 0 0
  simpa [num] using this

theorem dig_lt (s : List UInt8) : ∀ k n, k ≤ 9 → n < 128 ^ k → (dig s k n).1 < 18446744073709551616 := by
  induction s with
  | nil => intro k n _ _; simp [dig]
  | cons c r ih =>
    intro k n hk hn
    have hp := pow_le9 k hk
    have hmul : c.toNat % 128 * 128 ^ k ≤ 127 * 128 ^ k := Nat.mul_le_mul_right _ (by omega)
    unfold dig
    split
    · simp
    · rename_i hz
      split
      · show n + c.toNat % 128 * 128 ^ k < _
        by_cases h9 : k = 9
        · have : c.toNat ≤ 1 := by
            apply Nat.le_of_not_lt; intro h; exact hz (.inl ⟨h9, h⟩)
          have : c.toNat % 128 * 128 ^ k ≤ 1 * 128 ^ k := Nat.mul_le_mul_right _ (by omega)
          omega
        · have : 128 ^ (k + 1) ≤ 9223372036854775808 := pow_le9 (k + 1) (by omega)
          rw [Nat.pow_succ] at this
          omega
      · by_cases h9 : k = 9
        · exfalso; apply hz; left; exact ⟨h9, by omega⟩
        · refine ih (k + 1) _ (by omega) ?_
          rw [Nat.pow_succ]; omega

theorem num_lt (s : List UInt8) : (num s).1 < 18446744073709551616 := dig_lt s 0 0 (by omega) (by simp)

/-- NOTHING ELSE IS READ AS IT: what is read without a fault is just its number's bytes. -/
theorem dig_one (s : List UInt8) : ∀ k n, k ≤ 9 → n < 128 ^ k → (dig s k n).2.2 = 0 →
    ∃ m, (dig s k n).1 = n + m * 128 ^ k ∧ m * 128 ^ k < 18446744073709551616 ∧ (0 < k → 0 < m) ∧ encF (9 - k) m = s.take ((dig s k n).2.1 - k) := by
  induction s with
  | nil => intro k n _ _ h; simp [dig] at h
  | cons c r ih =>
    intro k n hk hn
    have hp := pow_le9 k hk
    have hpp : 0 < 128 ^ k := Nat.pow_pos (by omega)
    have hc : c.toNat < 256 := c.toNat_lt
    unfold dig
    split
    · intro h; simp at h
    · rename_i hz
      split
      · rename_i hlt
        intro _
        refine ⟨c.toNat, ?_, ?_, ?_, ?_⟩
        · show n + c.toNat % 128 * 128 ^ k = _; rw [Nat.mod_eq_of_lt hlt]
        · by_cases h9 : k = 9
          · have h1 : c.toNat ≤ 1 := by
              apply Nat.le_of_not_lt; intro h; exact hz (.inl ⟨h9, h⟩)
            have : c.toNat * 128 ^ k ≤ 1 * 128 ^ k := Nat.mul_le_mul_right _ h1
            omega
          · have h2 : 128 ^ (k + 1) ≤ 9223372036854775808 := pow_le9 (k + 1) (by omega)
            rw [Nat.pow_succ] at h2
            have : c.toNat * 128 ^ k ≤ 127 * 128 ^ k := Nat.mul_le_mul_right _ (by omega)
            omega
        · intro h0
          apply Nat.pos_of_ne_zero; intro h; exact hz (.inr ⟨h0, h⟩)
        · show _ = List.take (k + 1 - k) (c :: r)
          rw [show k + 1 - k = 1 from by omega]
          cases 9 - k with
          | zero => simp [encF]
          | succ f => simp [encF, hlt]
      · rename_i hge
        have h9 : k ≠ 9 := by intro h; exact hz (.inl ⟨h, by omega⟩)
        intro he
        obtain ⟨m, e1, e2, e3, e4⟩ := ih (k + 1) (n + c.toNat % 128 * 128 ^ k) (by omega) (by
          have hmul : c.toNat % 128 * 128 ^ k ≤ 127 * 128 ^ k := Nat.mul_le_mul_right _ (by omega)
          rw [Nat.pow_succ]; omega) he
        have hm := e3 (by omega)
        have hf := dig_form r (k + 1) (n + c.toNat % 128 * 128 ^ k)
        have hk2 : k + 1 < (dig r (k + 1) (n + c.toNat % 128 * 128 ^ k)).2.1 := by
          rcases hf with ⟨_, b, _⟩ | ⟨_, _, b⟩
          · exact b
          · rw [he] at b; omega
        have hsplit : (c.toNat % 128 + 128 * m) * 128 ^ k = c.toNat % 128 * 128 ^ k + m * 128 ^ (k + 1) := by
          rw [Nat.add_mul, Nat.pow_succ, Nat.mul_comm 128 m, Nat.mul_assoc, Nat.mul_comm 128 (128 ^ k)]
        refine ⟨c.toNat % 128 + 128 * m, ?_, ?_, ?_, ?_⟩
        · rw [e1, hsplit]; omega
        · rw [hsplit]
          -- m * 128 ^ (k + 1) is below 2 ^ 64 and a multiple of 128 ^ (k + 1), what is added is less than that
          obtain ⟨q, hq⟩ : ∃ q, 18446744073709551616 = 128 ^ (k + 1) * q := by
            have h2 : (18446744073709551616 : Nat) = 128 ^ 9 * 2 := by decide
            rw [h2]
            exact Nat.dvd_trans (Nat.pow_dvd_pow 128 (by omega)) (Nat.dvd_mul_right _ _)
          have hlt : m < q := by
            apply Nat.lt_of_mul_lt_mul_left (a := 128 ^ (k + 1))
            rw [← hq, Nat.mul_comm]; exact e2
          have h3 : 128 ^ (k + 1) * (m + 1) ≤ 18446744073709551616 := by
            rw [hq]; exact Nat.mul_le_mul_left _ hlt
          have hmul : c.toNat % 128 * 128 ^ k ≤ 127 * 128 ^ k := Nat.mul_le_mul_right _ (by omega)
          rw [Nat.mul_add, Nat.mul_comm _ m] at h3
          rw [Nat.pow_succ] at h3 ⊢
          omega
        · intro _; omega
        · obtain ⟨f, hf9⟩ : ∃ f, 9 - k = f + 1 := ⟨8 - k, by omega⟩
          rw [hf9, encF, if_neg (by omega)]
          have e5 : (c.toNat % 128 + 128 * m) / 128 = m := by omega
          have e6 : (c.toNat % 128 + 128 * m) % 128 + 128 = c.toNat := by omega
          have e7 : UInt8.ofNat c.toNat = c := by simp
          rw [e5, e6, e7, show f = 9 - (k + 1) from by omega, e4]
          rw [show (dig r (k + 1) (n + c.toNat % 128 * 128 ^ k)).2.1 - k = ((dig r (k + 1) (n + c.toNat % 128 * 128 ^ k)).2.1 - (k + 1)) + 1 from by omega]
          rfl

theorem num_one (s : List UInt8) (h : (num s).2.2 = 0) : enc (num s).1 = s.take (num s).2.1 := by
  obtain ⟨m, e1, _, _, e4⟩ := dig_one s 0 0 (by omega) (by simp) h
  have : m = (num s).1 := by unfold num; rw [e1]; simp
  unfold enc
  rw [← this]
  simpa [num] using e4

/-- A number with a sign, turned in and out. -/
def zig (m : Int) : Int := if 0 ≤ m then 2 * m else -2 * m - 1
def zag (n : Int) : Int := if n % 2 = 0 then n / 2 else -(n / 2) - 1
theorem zag_zig (m : Int) : zag (zig m) = m := by
  unfold zag zig; split <;> split <;> omega
theorem zig_zag (n : Int) (h : 0 ≤ n) : zig (zag n) = n := by
  unfold zag zig; split <;> split <;> omega
theorem zig_bd (m : Int) (h1 : -9223372036854775808 ≤ m) (h2 : m ≤ 9223372036854775807) : 0 ≤ zig m ∧ zig m ≤ 18446744073709551615 := by
  unfold zig; split <;> omega
theorem zag_bd (n : Int) (h1 : 0 ≤ n) (h2 : n ≤ 18446744073709551615) : -9223372036854775808 ≤ zag n ∧ zag n ≤ 9223372036854775807 := by
  unfold zag; split <;> omega

end Go.Proofs.YtnhljfhpfpfniaaGreat.M

namespace Go.Proofs.YtnhljfhpfpfniaaGreat
open Go.RowKit

theorem ret_intN {k : IntKind} {a b : Int} (h : a = b) : Ending.returned (.int k a) = .returned (.int k b) := by rw [h]

theorem xor_ones_u64 (a : Nat) (ha : a < 18446744073709551616) : bits .xor .u64 (a : Int) 18446744073709551615 = 18446744073709551615 - (a : Int) := by
  show IntKind.u64.wrap ((BitVec.ofInt 64 (a : Int) ^^^ BitVec.ofInt 64 18446744073709551615).toNat : Int) = _
  have e : (BitVec.ofInt 64 18446744073709551615) = BitVec.allOnes 64 := by decide
  rw [e, BitVec.xor_allOnes, BitVec.toNat_not, ofInt_u64 a ha, IntKind.wrap_u64]
  omega
theorem xor_zero_u64 (a : Nat) (ha : a < 18446744073709551616) : bits .xor .u64 (a : Int) 0 = (a : Int) := by
  have := u64_xor_nat a 0 ha (by omega)
  simpa using this
theorem xor_zero_i64 (a : Nat) (ha : a < 9223372036854775808) : bits .xor .i64 (a : Int) 0 = (a : Int) := by
  show IntKind.i64.wrap ((BitVec.ofInt 64 (a : Int) ^^^ BitVec.ofInt 64 0).toNat : Int) = _
  have e : (BitVec.ofInt 64 0) = 0#64 := by decide
  rw [e, BitVec.xor_zero, ofInt_u64 a (by omega), IntKind.wrap_i64]
  omega
theorem xor_ones_i64 (a : Nat) (ha : a < 9223372036854775808) : bits .xor .i64 (a : Int) (-1) = -1 - (a : Int) := by
  show IntKind.i64.wrap ((BitVec.ofInt 64 (a : Int) ^^^ BitVec.ofInt 64 (-1)).toNat : Int) = _
  have e : (BitVec.ofInt 64 (-1)) = BitVec.allOnes 64 := by decide
  rw [e, BitVec.xor_allOnes, BitVec.toNat_not, ofInt_u64 a (by omega), IntKind.wrap_i64]
  omega

theorem zig_bits (m : Int) (h1 : -9223372036854775808 ≤ m) (h2 : m ≤ 9223372036854775807) :
    bits BinOp.xor IntKind.u64 (IntKind.u64.wrap (IntKind.u64.wrap m * 2)) (IntKind.u64.wrap (m / 9223372036854775808)) = M.zig m := by
  simp only [IntKind.wrap_u64]
  by_cases h : 0 ≤ m
  · have e1 : m % 18446744073709551616 * 2 % 18446744073709551616 = ((m * 2).toNat : Int) := by omega
    have e2 : m / 9223372036854775808 % 18446744073709551616 = 0 := by omega
    rw [e1, e2, xor_zero_u64 _ (by omega)]
    unfold M.zig; rw [if_pos h]; omega
  · have e1 : m % 18446744073709551616 * 2 % 18446744073709551616 = ((m * 2 + 18446744073709551616).toNat : Int) := by omega
    have e2 : m / 9223372036854775808 % 18446744073709551616 = 18446744073709551615 := by omega
    rw [e1, e2, xor_ones_u64 _ (by omega)]
    unfold M.zig; rw [if_neg h]; omega

theorem zag_bits (n : Int) (h1 : 0 ≤ n) (h2 : n ≤ 18446744073709551615) :
    bits BinOp.xor IntKind.i64 (n / 2) (wrap64 (-wrap64 (bits BinOp.and IntKind.u64 n 1))) = M.zag n := by
  have e : bits BinOp.and IntKind.u64 n 1 = n % 2 := by
    rw [u64_and n 1 h1 (by omega) (by omega) (by omega)]
    show ((n.toNat &&& 1 : Nat) : Int) = _
    rw [nat_mask1]; omega
  rw [e]
  obtain ⟨a, ha⟩ : ∃ a : Nat, n / 2 = (a : Int) := ⟨(n / 2).toNat, by omega⟩
  unfold M.zag
  rcases Int.emod_two_eq n with h | h
  · rw [h, show wrap64 (-wrap64 0) = 0 from by decide +kernel, ha, xor_zero_i64 a (by omega)]; rfl
  · rw [h, show wrap64 (-wrap64 1) = -1 from by decide +kernel, ha, xor_ones_i64 a (by omega), if_neg (by omega)]; omega

theorem zig15 (m : Int) (w : World) (h1 : -9223372036854775808 ≤ m) (h2 : m ≤ 9223372036854775807) :
    Calls Tryz.prog 141 #[.int .i64 m] w fun e w' => e = .returned (.int .u64 (M.zig m)) ∧ w = w' := by
  by_cases h : 0 ≤ m
  · have HZ : Hid (M.zig m = 2 * m) := by show M.zig m = 2 * m; unfold M.zig; rw [if_pos h]
    go_enter Tryz.func141, Tryz.ntmps141
    go_wp2
    go_ret
    exact ⟨ret_intN HZ.out.symm, rfl⟩
  · have HZ : Hid (M.zig m = 2 * -(m + 1) + 1) := by show M.zig m = _; unfold M.zig; rw [if_neg h]; omega
    go_enter Tryz.func141, Tryz.ntmps141
    go_wp2
    go_ret
    exact ⟨ret_intN HZ.out.symm, rfl⟩

theorem zag17 (n : Int) (w : World) (h1 : 0 ≤ n) (h2 : n ≤ 18446744073709551615) :
    Calls Tryz.prog 142 #[.int .u64 n] w fun e w' => e = .returned (.int .i64 (M.zag n)) ∧ w = w' := by
  rcases Int.emod_two_eq n with h | h
  · have HZ : Hid (M.zag n = n / 2) := by show M.zag n = _; unfold M.zag; rw [if_pos h]
    have hb : (n % 2 == 0) = true := by simpa using h
    clear h
    go_enter Tryz.func142, Tryz.ntmps142
    go_wp2
    go_ret
    exact ⟨ret_intN HZ.out.symm, rfl⟩
  · have HZ : Hid (M.zag n = -(n / 2) - 1) := by show M.zag n = _; unfold M.zag; rw [if_neg (by omega)]
    have hb : (n % 2 == 0) = false := by rw [beq_eq_false_iff_ne]; omega
    clear h
    go_enter Tryz.func142, Tryz.ntmps142
    go_wp2
    go_ret
    exact ⟨ret_intN HZ.out.symm, rfl⟩

theorem zig14 (m : Int) (w : World) (h1 : -9223372036854775808 ≤ m) (h2 : m ≤ 9223372036854775807) :
    Calls Tryz.prog 132 #[.int .i64 m] w fun e w' => e = .returned (.int .u64 (M.zig m)) ∧ w = w' := by
  have HZ := Lib.hid (zig_bits m h1 h2)
  go_enter Tryz.func132, Tryz.ntmps132
  go_wp2
  go_ret
  exact ⟨ret_intN HZ.out, rfl⟩

theorem zag16 (n : Int) (w : World) (h1 : 0 ≤ n) (h2 : n ≤ 18446744073709551615) :
    Calls Tryz.prog 157 #[.int .u64 n] w fun e w' => e = .returned (.int .i64 (M.zag n)) ∧ w = w' := by
  have HZ := Lib.hid (zag_bits n h1 h2)
  go_enter Tryz.func157, Tryz.ntmps157
  go_wp2
  go_ret
  exact ⟨ret_intN HZ.out, rfl⟩

/-- What is told of bytes: how large one is. -/
theorem info5N : (Tryz.prog.info? 5).map (fun i => (i.zero, i.size, i.bytes)) = some (some (.int .u8 0), 1, 1) := by kernel_rfl

set_option maxHeartbeats 4000000 in
set_option maxRecDepth 100000 in
/-- internal/stringslite.Clone: the same bytes, in new memory. -/
theorem clone53 (s : ByteArray) (w : World) (hlim : s.size ≤ 281474976710656) :
    Calls Tryz.prog 158 #[.string s] w fun e w' => e = .returned (.string s) ∧ Below w.heap.size w w' := by
  by_cases h0 : s.size = 0
  · have hs : s = ⟨#[]⟩ := by
      apply ByteArray.ext
      exact Array.eq_empty_of_size_eq_zero h0
    subst hs
    go_enter Tryz.func158, Tryz.ntmps158
    go_wp2
    go_ret
    exact ⟨rfl, Below.refl _ _⟩
  · obtain ⟨i0, hi, hz0, hz1, hz2⟩ := info_parts info5N
    have hinfo : (Tryz.prog.info? 5).map (·.size) = some 1 := by rw [hi]; simp [hz1]
    have hco : Tryz.prog.cellsOf 5 = 1 := by simp [Program.cellsOf, hi, hz1]
    obtain ⟨M, hM⟩ : ∃ M, M = madeCells (Value.int .u8 0).cells (((s.size : Nat) : Int).toNat * i0.size) := ⟨_, rfl⟩
    have hMs : M.size = s.size := by rw [hM, size_madeCells, hz1]; simp
    have hmk : ∀ W : World, (Instr.makeSlice 42 (.int .i64 (s.size : Int)) (.int .i64 (s.size : Int))).run Tryz.prog W = .ok (.slice (some ⟨W.heap.size, 0, none⟩) s.size s.size) (W.alloc (.cells M 5)) := fun W => by
      have h := run_make (P := Tryz.prog) W 42 5 i0 (.int .u8 0) Tryz.underlying42 hi hz0 .i64 .i64 (s.size : Int) (s.size : Int) (by omega) (by omega) (by rw [hz2]; omega) (by omega)
      rw [← hM] at h
      simpa using h
    clear hM
    have hcp := Lib.run_copy_row_string (P := Tryz.prog) (w.alloc (.cells M 5)) 42 9 3 5 w.heap.size 0 s.size s.size s M 5 Tryz.underlying42 hinfo (heap_alloc_new w _) (Nat.le_refl _) (by omega)
    obtain ⟨Y, hY⟩ : ∃ Y, Y = (M.toList.take 0 ++ Lib.byteCells s.data.toList ++ M.toList.drop (0 + s.size)).toArray := ⟨_, rfl⟩
    rw [← hY] at hcp
    have hYl : Y.toList = Lib.byteCells s.data.toList := by
      rw [hY, List.toList_toArray, List.take_zero, List.nil_append, List.drop_of_length_le (by rw [Array.length_toList]; omega), List.append_nil]
    have hYs : Y.size = s.size := by rw [← Array.length_toList, hYl, Lib.byteCells_length, ← Lib.size_eq]
    have hgY : ((w.alloc (.cells M 5)).setRow w.heap.size Y).heap[w.heap.size]? = some (.cells Y 5 (0, 0)) := setRow_heap _ _ M _ 5 (0, 0) (heap_alloc_new w _)
    have hne : s.data.toList ≠ [] := fun e => h0 (by rw [Lib.size_eq, e]; rfl)
    have hUS := Lib.run_unsafeString_row (P := Tryz.prog) ((w.alloc (.cells M 5)).setRow w.heap.size Y) 133 3 9 5 Tryz.underlying133 hco w.heap.size Y.size (by unfold World.shape?; rw [hgY]) s.data.toList hne (by rw [← Lib.size_eq]; omega) (by rw [← Lib.size_eq]; omega)
      (fun j x hx => Lib.cells_of_row hgY Y.size j _ (by rw [List.take_of_length_le (by rw [Array.length_toList]; exact Nat.le_refl _), hYl]; simp [Lib.byteCells, hx]))
    rw [← Lib.size_eq] at hUS
    clear hY
    go_enter Tryz.func158, Tryz.ntmps158
    go_wp2
    go_ret
    have hb1 : Below w.heap.size w (w.alloc (.cells M 5)) := (Below.refl _ w).alloc (Nat.le_refl _) _
    have hb2 : Below w.heap.size (w.alloc (.cells M 5)) ((w.alloc (.cells M 5)).setRow w.heap.size Y) := ⟨rfl, rfl, rfl, by simp, fun k hk => setRow_other _ _ _ _ (by omega)⟩
    exact ⟨rfl, Lib.below_freeze (hb1.trans hb2) (p := ⟨w.heap.size, 0, none⟩) (Nat.le_refl _) _⟩

theorem clone51 (s : ByteArray) (w : World) (hlim : s.size ≤ 281474976710656) :
    Calls Tryz.prog 151 #[.string s] w fun e w' => e = .returned (.string s) ∧ Below w.heap.size w w' := by
  go_enter Tryz.func151, Tryz.ntmps151
  go_wp2_with (go_at_call 158; refine (clone53 s _ hlim).mono ?_; rintro e w' ⟨rfl, hb⟩)
  go_ret
  exact ⟨rfl, hb⟩
end Go.Proofs.YtnhljfhpfpfniaaGreat

namespace Go.Proofs.YtnhljfhpfpfniaaGreat
open Go.RowKit

theorem ret_strN {a b : ByteArray} (h : a = b) : Ending.returned (.string a) = .returned (.string b) := by rw [h]

theorem cell_of_blkN {W : World} {g : Nat} {cs : Array Value} {t : TypeId} (h : W.heap[g]? = some (.cells cs t (0, 0))) (i : Nat) (hi : i < cs.size) : ∃ u, W.cell? ⟨g, i, none⟩ = some u := by
  refine ⟨cs[i], ?_⟩
  rw [cell_of_row W g i cs t (0, 0) h]; simp [hi]
theorem free_of_blkN {W : World} {g : Nat} {cs : Array Value} {t : TypeId} (h : W.heap[g]? = some (.cells cs t (0, 0))) (i : Nat) : W.frozen? ⟨g, i, none⟩ = false := by
  simp [World.frozen?, h]
theorem set_blkN {W : World} {g : Nat} {cs : Array Value} {t : TypeId} (h : W.heap[g]? = some (.cells cs t (0, 0))) (i : Nat) (u : Value) : (W.setCell ⟨g, i, none⟩ u).heap[g]? = some (.cells (cs.setIfInBounds i u) t (0, 0)) := by
  simp [World.setCell, Array.getElem?_modify, h]
theorem lt_of_blk {W : World} {g : Nat} {o : Obj} (h : W.heap[g]? = some o) : g < W.heap.size := by
  rcases Nat.lt_or_ge g W.heap.size with hlt | hge
  · exact hlt
  · rw [Array.getElem?_eq_none hge] at h; cases h

/-- Bytes that stand in a block's first cells, and one more behind them. -/
theorem take_set (cs : Array Value) (k : Nat) (pre : List UInt8) (b : UInt8) (hk : k < cs.size) (_hp : pre.length = k) (h : cs.toList.take k = Lib.byteCells pre) :
    (cs.setIfInBounds k (.int .u8 (b.toNat : Int))).toList.take (k + 1) = Lib.byteCells (pre ++ [b]) := by
  rw [Array.toList_setIfInBounds, List.take_add_one, List.take_set_of_le (by omega), h, Lib.byteCells_append]
  simp [hk, Lib.byteCells]

/-- 'string(b[:n])' where the block's first cells are bytes. -/
theorem conv_blk (W : World) (g : Nat) (cs : Array Value) (t : TypeId) (c : Nat) (l : List UInt8) (h : W.heap[g]? = some (.cells cs t (0, 0))) (htk : cs.toList.take l.length = Lib.byteCells l) :
    (convert 42 9 (.slice (some ⟨g, 0, none⟩) l.length c)).run Tryz.prog W = .ok (.string ⟨l.toArray⟩) W :=
  run_convert_bytes_back W 42 9 5 ⟨g, 0, none⟩ c l Tryz.underlying42 Tryz.underlying5 Tryz.underlying9
    (fun j hj => Lib.cells_of_row h l.length j _ (by rw [htk]; simp [Lib.byteCells, hj]))

set_option maxRecDepth 100000 in
theorem slice49 (W : World) (g k : Nat) (h : k ≤ 9) : (Instr.sliceAt 86 (.pointer (some ⟨g, 0, none⟩)) none (some (.int .i64 ((k : Int) + 1))) none).run Tryz.prog W = .ok (.slice (some ⟨g, 0, none⟩) (k + 1) 10) W := by
  have ha : Tryz.prog.arrayLen 86 = 10 := by kernel_rfl
  have := run_sliceAt_array_h (P := Tryz.prog) (w := W) (t := 86) (a := ⟨g, 0, none⟩) Tryz.underlying86 .i64 ((k : Int) + 1) (by omega) (by rw [ha]; omega)
  rw [this, ha]
  congr 2

/-- What the loop of Num holds: k digits are laid, m is left. -/
def NumRel (w : World) (n : Int) (b0 b4 : Value) (W : World) : Prop :=
  ∃ (k m : Nat) (pre : List UInt8) (cs : Array Value), k ≤ 9 ∧ b4 = .int .i64 k ∧ b0 = .int .u64 m ∧ (m : Int) ≤ n ∧ m * 128 ^ k < 18446744073709551616 ∧ M.enc n.toNat = pre ++ M.encF (9 - k) m ∧ pre.length = k ∧
    cs.size = 10 ∧ cs.toList.take k = Lib.byteCells pre ∧ W.heap[w.heap.size]? = some (.cells cs 86 (0, 0)) ∧ Below w.heap.size w W

theorem or128 (m : Int) (h1 : 0 ≤ m) : bits BinOp.or IntKind.u8 (IntKind.u8.wrap m) 128 = ((UInt8.ofNat (m.toNat % 128 + 128)).toNat : Int) := by
  obtain ⟨a, rfl⟩ := Int.eq_ofNat_of_zero_le h1
  rw [M.toNat_hi, IntKind.wrap_u8]
  rw [u8_or _ _ (by omega) (by omega) (by omega) (by omega)]
  have e1 : ((a : Int) % 256).toNat = a % 256 := by omega
  have e2 : (128 : Int).toNat = 128 := rfl
  rw [e1, e2, Int.toNat_natCast]
  have : a % 256 ||| 128 = a % 128 + 128 := by
    by_cases h : a % 256 < 128
    · have := nat_join 7 128 (a % 256) (by decide) (by simpa using h)
      rw [Nat.or_comm, this]; omega
    · have e : a % 256 = 128 ||| (a % 128) := by
        rw [nat_join 7 128 (a % 128) (by decide) (by simpa using Nat.mod_lt a (by omega : 0 < 128))]; omega
      rw [e, Nat.or_comm, ← Nat.or_assoc, Nat.or_self, ← e]; omega
  rw [this]

set_option maxRecDepth 100000 in
set_option maxHeartbeats 400000 in
theorem num8 (n : Int) (w : World) (h1 : 0 ≤ n) (h2 : n ≤ 18446744073709551615) :
    Calls Tryz.prog 16 #[.int .u64 n] w fun e w' => e = .returned (.string (M.encB n.toNat)) ∧ Below w.heap.size w w' := by
  have hst : NumRel w n (.int .u64 n) (.int .i64 0) (w.alloc (.cells #[.int .u8 0, .int .u8 0, .int .u8 0, .int .u8 0, .int .u8 0, .int .u8 0, .int .u8 0, .int .u8 0, .int .u8 0, .int .u8 0] 86)) :=
    ⟨0, n.toNat, [], _, by omega, rfl, by rw [Int.toNat_of_nonneg h1], by omega, by omega, rfl, rfl, rfl, rfl, heap_alloc_new w _, (Below.refl _ w).alloc (Nat.le_refl _) _⟩
  go_enter Tryz.func16, Tryz.ntmps16
  go_wp2
  go_loopw [0, 4] (fun b0 b4 W => NumRel w n b0 b4 W) (fun b0 _ _ => (intOf b0).toNat)
  case atStart => exact hst
  case round =>
    clear hst
    obtain ⟨k, m, pre, cs, hk, rfl, rfl, hmn, hm, henc, hpre, hcs, htk, hW, hb⟩ := hrel
    obtain ⟨u1, c1⟩ := cell_of_blkN hW k (by omega)
    have c2 := free_of_blkN hW k
    by_cases hlt : m < 128
    · have ht : ¬ (128 : Int) ≤ m := by omega
      have hs := slice49
      have HF : Hid (M.enc n.toNat = pre ++ [UInt8.ofNat m]) := by
        show M.enc n.toNat = _
        rw [henc]
        cases 9 - k with
        | zero => rfl
        | succ f => rw [M.encF, if_pos hlt]
      have e0 : (UInt8.ofNat m).toNat = m := M.toNat_lo m hlt
      have hW2 := set_blkN hW k (.int .u8 (m : Int))
      have htk2 := take_set cs k pre (UInt8.ofNat m) (by omega) hpre htk
      rw [e0] at htk2
      have hl2 : (pre ++ [UInt8.ofNat m]).length = k + 1 := by simp [hpre]
      have hcv := conv_blk _ _ _ _ 10 (pre ++ [UInt8.ofNat m]) hW2 (by rw [hl2]; exact htk2)
      rw [hl2] at hcv
      have hb2 := hb.setCell (p := ⟨w.heap.size, k, none⟩) (Nat.le_refl _) (.int .u8 (m : Int))
      have HW2 := Lib.hid hW2; clear hW2
      have HE := Lib.hid henc; clear henc
      have HP := Lib.hid hpre; clear hpre
      have HC := Lib.hid hcs
      have HT := Lib.hid htk; clear htk
      have HT2 := Lib.hid htk2; clear htk2
      have HL := Lib.hid hl2; clear hl2
      have HE0 := Lib.hid e0; clear e0
      clear hW hcs
      go_wp2
      go_ret
      exact ⟨ret_strN (by unfold M.encB; rw [HF.out]), hb2⟩
    · have ht : (128 : Int) ≤ m := by omega
      have hk9 : k ≠ 9 := by
        rintro rfl
        have : (128 : Nat) ^ 9 = 9223372036854775808 := by decide
        rw [this] at hm; omega
      have HB := Lib.hid (or128 m (by omega))
      have hb2 := hb.setCell (p := ⟨w.heap.size, k, none⟩) (Nat.le_refl _) (bits BinOp.or IntKind.u8 (IntKind.u8.wrap m) 128 |> Value.int .u8)
      have hW2 := set_blkN hW k (bits BinOp.or IntKind.u8 (IntKind.u8.wrap m) 128 |> Value.int .u8)
      have HR : Hid (NumRel w n (.int .u64 ((m : Int) / 128)) (.int .i64 ((k : Int) + 1)) (wr.setCell ⟨w.heap.size, k, none⟩ (.int .u8 (bits BinOp.or IntKind.u8 (IntKind.u8.wrap m) 128)))) := by
        refine ⟨k + 1, m / 128, pre ++ [UInt8.ofNat (m % 128 + 128)], _, by omega, by go_num, by go_num, by omega, ?_, ?_, by simp [hpre], by simpa using hcs, ?_, hW2, hb2⟩
        · rw [Nat.pow_succ, ← Nat.mul_assoc]
          refine Nat.lt_of_le_of_lt ?_ hm
          rw [Nat.mul_assoc, Nat.mul_comm (128 ^ k) 128, ← Nat.mul_assoc]
          exact Nat.mul_le_mul_right _ (by omega)
        · rw [henc]
          obtain ⟨f, hf⟩ : ∃ f, 9 - k = f + 1 := ⟨8 - k, by omega⟩
          rw [hf, M.encF, if_neg hlt, show 9 - (k + 1) = f from by omega]; simp
        · rw [HB.out, Int.toNat_natCast]
          exact take_set cs k pre _ (by omega) hpre htk
      clear hW2 hb2 henc hpre hcs htk hW HB
      go_wp2
      go_roundw
      case rel => exact HR.out
      case measure => simp [intOf]; omega
/-- 'string([]byte{b})' where the block is one byte. -/
theorem conv_one (W : World) (g : Nat) (b : UInt8) (h : W.heap[g]? = some (.cells #[.int .u8 (b.toNat : Int)] 5 (0, 0))) :
    (convert 42 9 (.slice (some ⟨g, 0, none⟩) 1 1)).run Tryz.prog W = .ok (.string ⟨#[b]⟩) W :=
  conv_blk W g _ 5 1 [b] h rfl

theorem cat_str (b : UInt8) (l : List UInt8) : (⟨#[b]⟩ : ByteArray) ++ ⟨l.toArray⟩ = ⟨(b :: l).toArray⟩ := by
  apply ByteArray.ext; simp

set_option maxRecDepth 100000 in
set_option maxHeartbeats 400000 in
theorem ref9F (f : Nat) : f ≤ 9 → ∀ (n : Int) (w : World), 0 ≤ n → n < 128 ^ (f + 1) → n ≤ 18446744073709551615 →
    Calls Tryz.prog 28 #[.int .u64 n] w fun e w' => e = .returned (.string ⟨(M.encF f n.toNat).toArray⟩) ∧ Below w.heap.size w w' := by
  have base : ∀ (f : Nat) (n : Int) (w : World), 0 ≤ n → n < 128 →
      Calls Tryz.prog 28 #[.int .u64 n] w fun e w' => e = .returned (.string ⟨(M.encF f n.toNat).toArray⟩) ∧ Below w.heap.size w w' := by
    intro f n w h0 hlt
    have HF : Hid (M.encF f n.toNat = [UInt8.ofNat n.toNat]) := by
      show M.encF f n.toNat = _
      cases f with
      | zero => rfl
      | succ f => rw [M.encF, if_pos (by omega)]
    have e0 : ((UInt8.ofNat n.toNat).toNat : Int) = n := by rw [M.toNat_lo _ (by omega)]; omega
    have hcv := conv_one (w.alloc (.cells #[.int .u8 n] 5)) w.heap.size (UInt8.ofNat n.toNat) (by rw [e0]; exact heap_alloc_new w _)
    clear e0
    go_enter Tryz.func28, Tryz.ntmps28
    go_wp2_with fail
    go_ret
    exact ⟨ret_strN (by rw [HF.out]), (Below.refl _ w).alloc (Nat.le_refl _) _⟩
  induction f with
  | zero => intro _ n w h0 hm h64; exact base 0 n w h0 (by omega)
  | succ f ih =>
    intro hf9 n w h0 hm h64
    by_cases hlt : n < 128
    · exact base _ n w h0 hlt
    · obtain ⟨b, hb⟩ : ∃ b, b = UInt8.ofNat (n.toNat % 128 + 128) := ⟨_, rfl⟩
      have he1 : IntKind.u8.wrap (IntKind.u8.wrap (n.tmod 128) + 128) = (b.toNat : Int) := by
        rw [hb, M.toNat_hi, Int.tmod_eq_emod_of_nonneg h0]
        simp only [IntKind.wrap_u8]; omega
      have he2 : IntKind.u64.wrap (n.tdiv 128) = n / 128 := by
        rw [Int.tdiv_eq_ediv_of_nonneg h0, IntKind.wrap_u64]; omega
      have HF : Hid (M.encF (f + 1) n.toNat = b :: M.encF f (n / 128).toNat) := by
        show M.encF (f + 1) n.toNat = _
        rw [M.encF, if_neg (by omega), hb]
        congr 2; omega
      have IH := Lib.hid (ih (by omega) (n / 128) · (by omega) (by rw [Int.pow_succ] at hm; omega) (by omega)); clear ih base
      have hA1 : ∀ W : World, (convert 42 9 (.slice (some ⟨W.heap.size, 0, none⟩) 1 1)).run Tryz.prog (W.alloc (.cells #[.int .u8 (b.toNat : Int)] 5)) = .ok (.string ⟨#[b]⟩) (W.alloc (.cells #[.int .u8 (b.toNat : Int)] 5)) :=
        fun W => conv_one _ _ b (heap_alloc_new W _)
      have hA2 : ∀ W : World, (convert 42 9 (.slice (some ⟨W.heap.size, 0, none⟩) 1 1)).run Tryz.prog (W.alloc (.cells #[.int .u8 (b.toNat : Int)] 5)).drew = .ok (.string ⟨#[b]⟩) (W.alloc (.cells #[.int .u8 (b.toNat : Int)] 5)).drew :=
        fun W => conv_one (W.alloc (.cells #[.int .u8 (b.toNat : Int)] 5)).drew _ b (heap_alloc_new W _)
      have hlen : (M.encF f (n / 128).toNat).length ≤ f + 1 := (M.encF_len f _).2
      clear hb hm
      go_enter Tryz.func28, Tryz.ntmps28
      go_wp2_with fail
      go_region_with (go_at_call 28; refine (IH.out _).mono ?_; rintro e w1 ⟨rfl, hb1⟩; first | (have hq := conv_one w1 w.heap.size b ((hb1.block _ (by simp)).trans (heap_alloc_new w _))) | skip)
      all_goals
        go_wp2
        go_ret
        refine ⟨ret_strN (by rw [HF.out]; exact cat_str b _), ?_⟩
        first
          | exact ((Below.refl _ w).alloc (Nat.le_refl _) _).drew.trans (hb1.mono (by simp))
          | exact ((Below.refl _ w).drew.trans hb1).alloc hb1.size _

/-- The document's Num returns the number's bytes. -/
theorem ref9 (n : Int) (w : World) (h0 : 0 ≤ n) (h64 : n ≤ 18446744073709551615) :
    Calls Tryz.prog 28 #[.int .u64 n] w fun e w' => e = .returned (.string (M.encB n.toNat)) ∧ Below w.heap.size w w' :=
  ref9F 9 (Nat.le_refl _) n w h0 (by
    have : (128 : Int) ^ (9 + 1) = 1180591620717411303424 := by decide
    rw [this]; omega) h64
end Go.Proofs.YtnhljfhpfpfniaaGreat

namespace Go.Proofs.YtnhljfhpfpfniaaGreat
open Go.RowKit
def rowB (s : ByteArray) : ByteArray := M.encB s.size ++ s

theorem encB_size (n : Nat) : (M.encB n).size ≤ 10 := by
  have := (M.enc_len n).2
  simpa [M.encB, ByteArray.size] using this

theorem int10 (m : Int) (w : World) (h1 : -9223372036854775808 ≤ m) (h2 : m ≤ 9223372036854775807) :
    Calls Tryz.prog 64 #[.int .i64 m] w fun e w' => e = .returned (.string (M.encB (M.zig m).toNat)) ∧ Below w.heap.size w w' := by
  obtain ⟨z1, z2⟩ := M.zig_bd m h1 h2
  go_enter Tryz.func64, Tryz.ntmps64
  go_wp2_with (first
    | (go_at_call 132; refine (zig14 m _ h1 h2).mono ?_; rintro e w' ⟨rfl, rfl⟩)
    | (go_at_call 16; refine (num8 _ _ z1 z2).mono ?_; rintro e w1 ⟨rfl, hb1⟩))
  go_ret
  exact ⟨rfl, hb1⟩
theorem int11 (m : Int) (w : World) (h1 : -9223372036854775808 ≤ m) (h2 : m ≤ 9223372036854775807) :
    Calls Tryz.prog 76 #[.int .i64 m] w fun e w' => e = .returned (.string (M.encB (M.zig m).toNat)) ∧ Below w.heap.size w w' := by
  obtain ⟨z1, z2⟩ := M.zig_bd m h1 h2
  go_enter Tryz.func76, Tryz.ntmps76
  go_wp2_with (first
    | (go_at_call 141; refine (zig15 m _ h1 h2).mono ?_; rintro e w' ⟨rfl, rfl⟩)
    | (go_at_call 28; refine (ref9 _ _ z1 z2).mono ?_; rintro e w1 ⟨rfl, hb1⟩))
  go_ret
  exact ⟨rfl, hb1⟩
/-- One step of what is read. -/
theorem dig_at (s : ByteArray) (k m : Nat) (h : k < s.size) : M.dig (s.data.toList.drop k) k m =
    if (k = 9 ∧ 1 < s[k].toNat) ∨ (0 < k ∧ s[k].toNat = 0) then (0, 0, 3)
    else if s[k].toNat < 128 then (m + s[k].toNat % 128 * 128 ^ k, k + 1, 0)
    else M.dig (s.data.toList.drop (k + 1)) (k + 1) (m + s[k].toNat % 128 * 128 ^ k) := by
  have h' : k < s.data.toList.length := by simpa using h
  rw [List.drop_eq_getElem_cons h']
  rfl

theorem num_end (s : ByteArray) (k m : Nat) (h : s.size ≤ k) (hd : M.dig (s.data.toList.drop k) k m = M.num s.data.toList) : M.num s.data.toList = (0, 0, 2) := by
  rw [← hd, List.drop_of_length_le (by simpa using h)]; rfl
theorem num_bad (s : ByteArray) (k m : Nat) (h : k < s.size) (hd : M.dig (s.data.toList.drop k) k m = M.num s.data.toList) (hb : (k = 9 ∧ 1 < s[k].toNat) ∨ (0 < k ∧ s[k].toNat = 0)) : M.num s.data.toList = (0, 0, 3) := by
  rw [← hd, dig_at s k m h, if_pos hb]
theorem num_last (s : ByteArray) (k m : Nat) (h : k < s.size) (hd : M.dig (s.data.toList.drop k) k m = M.num s.data.toList) (hb : ¬ ((k = 9 ∧ 1 < s[k].toNat) ∨ (0 < k ∧ s[k].toNat = 0))) (hc : s[k].toNat < 128) :
    M.num s.data.toList = (m + s[k].toNat % 128 * 128 ^ k, k + 1, 0) := by
  rw [← hd, dig_at s k m h, if_neg hb, if_pos hc]
theorem num_next (s : ByteArray) (k m : Nat) (h : k < s.size) (hd : M.dig (s.data.toList.drop k) k m = M.num s.data.toList) (hb : ¬ ((k = 9 ∧ 1 < s[k].toNat) ∨ (0 < k ∧ s[k].toNat = 0))) (hc : ¬ s[k].toNat < 128) :
    M.dig (s.data.toList.drop (k + 1)) (k + 1) (m + s[k].toNat % 128 * 128 ^ k) = M.num s.data.toList := by
  rw [← hd, dig_at s k m h, if_neg hb, if_neg hc]

theorem ret_num {p : Nat × Nat × Int} {x y z : Int} {a b : Nat} {c : Int} (h : p = (a, b, c)) (hx : x = a) (hy : y = b) (hz : z = c) :
    Ending.returned (.tuple #[.int .u64 x, .int .i64 y, .int .i64 z]) = .returned (.tuple #[.int .u64 p.1, .int .i64 p.2.1, .int .i64 p.2.2]) := by
  subst h hx hy hz; rfl

/-- What one digit more makes of a number, in the machine's words. -/
theorem or_digit (k m c : Nat) (hk : k ≤ 9) (hm : m < 128 ^ k) (hc : k = 9 → c ≤ 1) (hcb : c < 256) :
    bits BinOp.or IntKind.u64 (m : Int) (IntKind.u64.wrap (IntKind.u64.wrap (bits BinOp.and IntKind.u8 (c : Int) 127) * 2 ^ (7 * k))) = ((m + c % 128 * 128 ^ k : Nat) : Int) := by
  have e1 : bits BinOp.and IntKind.u8 (c : Int) 127 = ((c % 128 : Nat) : Int) := by
    have := u8_and_nat c 127 hcb (by omega)
    rw [nat_mask7] at this
    exact this
  have hp := M.pow_le9 k hk
  have e2 : (2 : Nat) ^ (7 * k) = 128 ^ k := by rw [Nat.pow_mul]
  have hmul : c % 128 * 128 ^ k < 18446744073709551616 := by
    by_cases h9 : k = 9
    · have h1 := hc h9
      have : c % 128 * 128 ^ k ≤ 1 * 128 ^ k := Nat.mul_le_mul_right _ (by omega)
      omega
    · have h2 : 128 ^ (k + 1) ≤ 9223372036854775808 := M.pow_le9 (k + 1) (by omega)
      rw [Nat.pow_succ] at h2
      have : c % 128 * 128 ^ k ≤ 127 * 128 ^ k := Nat.mul_le_mul_right _ (by omega)
      omega
  have e3 : IntKind.u64.wrap (IntKind.u64.wrap ((c % 128 : Nat) : Int) * 2 ^ (7 * k)) = ((c % 128 * 128 ^ k : Nat) : Int) := by
    have e4 : IntKind.u64.wrap ((c % 128 : Nat) : Int) = ((c % 128 : Nat) : Int) := by rw [IntKind.wrap_u64]; omega
    have e5 : (2 : Int) ^ (7 * k) = ((128 ^ k : Nat) : Int) := by rw [← e2]; simp
    rw [e4, e5, ← Int.natCast_mul, IntKind.wrap_u64]
    omega
  rw [e1, e3, u64_or_nat m _ (by omega) hmul, Nat.or_comm, nat_join (7 * k) _ m (by rw [e2]; exact Nat.mul_mod_left _ _) (by rw [e2]; exact hm), Nat.add_comm]

theorem more_lt (k m c : Nat) (hm : m < 128 ^ k) : m + c % 128 * 128 ^ k < 128 ^ (k + 1) := by
  have : c % 128 * 128 ^ k ≤ 127 * 128 ^ k := Nat.mul_le_mul_right _ (by omega)
  rw [Nat.pow_succ]; omega

set_option maxRecDepth 100000 in
set_option maxHeartbeats 1000000 in
theorem number39 (s : ByteArray) (w : World) (hs : s.size ≤ maxLen) :
    Calls Tryz.prog 134 #[.string s] w fun e w' => e = .returned (.tuple #[.int .u64 (M.num s.data.toList).1, .int .i64 (M.num s.data.toList).2.1, .int .i64 (M.num s.data.toList).2.2]) ∧ w = w' := by
  unfold maxLen at hs
  go_enter Tryz.func134, Tryz.ntmps134
  go_wp2
  go_loop [5, 10] (fun n i => ∃ k m : Nat, k ≤ s.size ∧ k ≤ 9 ∧ m < 128 ^ k ∧ i = .int .i64 k ∧ n = .int .u64 m ∧ M.dig (s.data.toList.drop k) k m = M.num s.data.toList) (fun _ i => s.size - (intOf i).toNat)
  case atStart => exact ⟨0, 0, by omega, by omega, by omega, rfl, rfl, rfl⟩
  case round =>
    obtain ⟨k, m, hk, hk9, hm, rfl, rfl, hd⟩ := hrel
    by_cases hlt : k < s.size
    · have hcb : s[k].toNat < 256 := s[k].toNat_lt
      have HO := Lib.hid (or_digit k m s[k].toNat hk9 hm)
      have HM := Lib.hid hm
      by_cases hb : (k = 9 ∧ 1 < s[k].toNat) ∨ (0 < k ∧ s[k].toNat = 0)
      · have HR := Lib.hid (num_bad s k m hlt hd hb)
        clear hd hm
        rcases hb with ⟨rfl, h1⟩ | ⟨h0, h1⟩
        · go_wp2
          go_ret3
          exact ⟨ret_num HR.out rfl rfl rfl, rfl⟩
        · have h2 : ((s[k].toNat : Int) == 0) = true := by simpa using h1
          go_wp2
          go_ret3
          exact ⟨ret_num HR.out rfl rfl rfl, rfl⟩
      · by_cases hc : s[k].toNat < 128
        · have HR := Lib.hid (num_last s k m hlt hd hb hc)
          clear hd hm
          by_cases h9 : k = 9
          · subst h9
            have h1 : s[9].toNat ≤ 1 := by omega
            have h3 : ((s[9].toNat : Int) == 0) = false := by rw [beq_eq_false_iff_ne]; omega
            clear hb
            go_wp2
            go_ret3
            exact ⟨ret_num HR.out (HO.out (fun _ => h1) hcb) rfl rfl, rfl⟩
          · by_cases h0 : 0 < k
            · have h3 : ((s[k].toNat : Int) == 0) = false := by rw [beq_eq_false_iff_ne]; omega
              clear hb
              go_wp2
              go_ret3
              exact ⟨ret_num HR.out (HO.out (fun h => absurd h h9) hcb) rfl rfl, rfl⟩
            · clear hb
              go_wp2
              go_ret3
              exact ⟨ret_num HR.out (HO.out (fun h => absurd h h9) hcb) rfl rfl, rfl⟩
        · have HR := Lib.hid (num_next s k m hlt hd hb hc)
          have hk8 : k < 9 := by omega
          clear hd hm
          by_cases h0 : 0 < k
          · have h3 : ((s[k].toNat : Int) == 0) = false := by rw [beq_eq_false_iff_ne]; omega
            clear hb
            go_wp2
            go_round
            case rel => exact ⟨k + 1, _, by omega, by omega, more_lt k m s[k].toNat HM.out, by go_num, congrArg (Value.int .u64) (HO.out (fun h => by omega) hcb), HR.out⟩
            case measure => simp [intOf]; omega
          · clear hb
            go_wp2
            go_round
            case rel => exact ⟨k + 1, _, by omega, by omega, more_lt k m s[k].toNat HM.out, by go_num, congrArg (Value.int .u64) (HO.out (fun h => by omega) hcb), HR.out⟩
            case measure => simp [intOf]; omega
    · have HR := Lib.hid (num_end s k m (by omega) hd)
      clear hd hm
      go_wp2
      go_ret3
      exact ⟨ret_num HR.out rfl rfl rfl, rfl⟩

/-- What one digit more makes of a number, by a product. -/
theorem mul_digit (k m p c : Nat) (hk : k ≤ 9) (hm : m < 128 ^ k) (hp : p = 128 ^ k) (hc : k = 9 → c ≤ 1) (_hcb : c < 256) :
    IntKind.u64.wrap ((m : Int) + IntKind.u64.wrap (((c : Int) % 128) * (p : Int))) = ((m + c % 128 * 128 ^ k : Nat) : Int) := by
  have hpw := M.pow_le9 k hk
  have hsum : m + c % 128 * 128 ^ k < 18446744073709551616 := by
    by_cases h9 : k = 9
    · have h1 := hc h9
      have : c % 128 * 128 ^ k ≤ 1 * 128 ^ k := Nat.mul_le_mul_right _ (by omega)
      omega
    · have h2 : 128 ^ (k + 1) ≤ 9223372036854775808 := M.pow_le9 (k + 1) (by omega)
      have := more_lt k m c hm
      omega
  have e1 : ((c : Int) % 128) * (p : Int) = ((c % 128 * 128 ^ k : Nat) : Int) := by rw [hp]; simp
  rw [e1]
  simp only [IntKind.wrap_u64]
  omega
theorem mul_unit (k p : Nat) (hk : k < 9) (hp : p = 128 ^ k) : IntKind.u64.wrap ((p : Int) * 128) = ((128 ^ (k + 1) : Nat) : Int) := by
  have h2 : 128 ^ (k + 1) ≤ 9223372036854775808 := M.pow_le9 (k + 1) (by omega)
  have e : (p : Int) * 128 = ((128 ^ (k + 1) : Nat) : Int) := by rw [hp, Nat.pow_succ]; simp
  rw [e, IntKind.wrap_u64]
  omega

set_option maxRecDepth 100000 in
set_option maxHeartbeats 1000000 in
theorem digits45 (s : ByteArray) (w : World) (hs : s.size ≤ maxLen) :
    Calls Tryz.prog 77 #[.string s] w fun e w' => e = .returned (.tuple #[.int .u64 (M.num s.data.toList).1, .int .i64 (M.num s.data.toList).2.1, .int .i64 (M.num s.data.toList).2.2]) ∧ w = w' := by
  unfold maxLen at hs
  go_enter Tryz.func77, Tryz.ntmps77
  go_wp2
  go_loop [5, 6, 7] (fun n u i => ∃ k m p : Nat, k ≤ s.size ∧ k ≤ 9 ∧ m < 128 ^ k ∧ p = 128 ^ k ∧ i = .int .i64 k ∧ n = .int .u64 m ∧ u = .int .u64 p ∧ M.dig (s.data.toList.drop k) k m = M.num s.data.toList) (fun _ _ i => s.size - (intOf i).toNat)
  case atStart => exact ⟨0, 0, 1, by omega, by omega, by omega, rfl, rfl, rfl, rfl, rfl⟩
  case round =>
    obtain ⟨k, m, p, hk, hk9, hm, hp, rfl, rfl, rfl, hd⟩ := hrel
    by_cases hlt : k < s.size
    · have hcb : s[k].toNat < 256 := s[k].toNat_lt
      have HM := Lib.hid hm
      have HP := Lib.hid hp
      by_cases hb : (k = 9 ∧ 1 < s[k].toNat) ∨ (0 < k ∧ s[k].toNat = 0)
      · have HR := Lib.hid (num_bad s k m hlt hd hb)
        clear hd hm hp
        by_cases h9 : k = 9
        · subst h9
          by_cases h1 : 1 < s[9].toNat
          · clear hb
            go_wp2
            go_ret3
            exact ⟨ret_num HR.out rfl rfl rfl, rfl⟩
          · have h2 : ((s[9].toNat : Int) == 0) = true := by rw [beq_iff_eq]; omega
            clear hb
            go_wp2
            go_ret3
            exact ⟨ret_num HR.out rfl rfl rfl, rfl⟩
        · have h0 : 0 < k := by omega
          have h2 : ((s[k].toNat : Int) == 0) = true := by rw [beq_iff_eq]; omega
          clear hb
          go_wp2
          go_ret3
          exact ⟨ret_num HR.out rfl rfl rfl, rfl⟩
      · by_cases hc : s[k].toNat < 128
        · have HR := Lib.hid (num_last s k m hlt hd hb hc)
          clear hd hm hp
          by_cases h9 : k = 9
          · subst h9
            have h1 : ¬ 1 < s[9].toNat := by omega
            have h2 : ((s[9].toNat : Int) == 0) = false := by rw [beq_eq_false_iff_ne]; omega
            clear hb
            go_wp2
            go_ret3
            exact ⟨ret_num HR.out (mul_digit 9 m p _ hk9 HM.out HP.out (fun _ => by omega) hcb) rfl rfl, rfl⟩
          · by_cases h0 : 0 < k
            · have h3 : ((s[k].toNat : Int) == 0) = false := by rw [beq_eq_false_iff_ne]; omega
              clear hb
              go_wp2
              go_ret3
              exact ⟨ret_num HR.out (mul_digit k m p _ hk9 HM.out HP.out (fun h => absurd h h9) hcb) rfl rfl, rfl⟩
            · clear hb
              go_wp2
              go_ret3
              exact ⟨ret_num HR.out (mul_digit k m p _ hk9 HM.out HP.out (fun h => absurd h h9) hcb) rfl rfl, rfl⟩
        · have HR := Lib.hid (num_next s k m hlt hd hb hc)
          have hk8 : k < 9 := by omega
          clear hd hm hp
          by_cases h0 : 0 < k
          · have h3 : ((s[k].toNat : Int) == 0) = false := by rw [beq_eq_false_iff_ne]; omega
            clear hb
            go_wp2
            go_round
            case rel => exact ⟨k + 1, _, _, by omega, by omega, more_lt k m s[k].toNat HM.out, rfl, by go_num, congrArg (Value.int .u64) (mul_digit k m p _ hk9 HM.out HP.out (fun h => by omega) hcb), congrArg (Value.int .u64) (mul_unit k p hk8 HP.out), HR.out⟩
            case measure => simp [intOf]; omega
          · clear hb
            go_wp2
            go_round
            case rel => exact ⟨k + 1, _, _, by omega, by omega, more_lt k m s[k].toNat HM.out, rfl, by go_num, congrArg (Value.int .u64) (mul_digit k m p _ hk9 HM.out HP.out (fun h => by omega) hcb), congrArg (Value.int .u64) (mul_unit k p hk8 HP.out), HR.out⟩
            case measure => simp [intOf]; omega
    · have HR := Lib.hid (num_end s k m (by omega) hd)
      clear hd hm hp
      go_wp2
      go_ret3
      exact ⟨ret_num HR.out rfl rfl rfl, rfl⟩
end Go.Proofs.YtnhljfhpfpfniaaGreat

namespace Go.Proofs.YtnhljfhpfpfniaaGreat
open Go.RowKit

/-- The number that stands next, if it may be. -/
def numTo (s : List UInt8) (may : Nat → Bool) : Nat × Nat × Int := if (M.num s).2.2 = 0 ∧ may (M.num s).1 = false then (0, 0, 4) else M.num s

theorem numTo_bad {s : List UInt8} {may : Nat → Bool} (h1 : (M.num s).2.2 = 0) (h2 : may (M.num s).1 = false) : numTo s may = (0, 0, 4) := by
  unfold numTo; rw [if_pos ⟨h1, h2⟩]
theorem numTo_ok {s : List UInt8} {may : Nat → Bool} (h : (M.num s).2.2 ≠ 0 ∨ may (M.num s).1 = true) : numTo s may = M.num s := by
  unfold numTo; rw [if_neg]; rintro ⟨a, b⟩; rcases h with h | h
  · exact h a
  · rw [b] at h; cases h

/-- Three results: a number, how many bytes, a fault. -/
abbrev Tri (p : Nat × Nat × Int) : Ending := .returned (.tuple #[.int .u64 p.1, .int .i64 p.2.1, .int .i64 p.2.2])

theorem may36 (n most : Int) (g : Nat) (w : World) (hc : w.cell? ⟨g, 0, none⟩ = some (.int .u64 most)) :
    Calls Tryz.prog 70 #[.int .u64 n, .pointer (some ⟨g, 0, none⟩)] w fun e w' => e = .returned (.bool (decide (n ≤ most))) ∧ w = w' := by
  go_enter Tryz.func70, Tryz.ntmps70
  go_wp2
  go_ret
  exact ⟨rfl, rfl⟩

set_option maxRecDepth 100000 in
theorem bounded35 (s : ByteArray) (fn : Nat) (cap : Value) (may : Nat → Bool) (w : World) (hs : s.size ≤ maxLen)
    (HE : ∀ (args : Array Value) (w : World), (callFunc fn args).run Tryz.prog w = .ok (.enter fn args) w)
    (H : Hid (∀ n : Nat, Calls Tryz.prog fn #[.int .u64 n, cap] w fun e w' => e = .returned (.bool (may n)) ∧ w = w')) :
    Calls Tryz.prog 69 #[.string s, .func (.func fn) #[] #[cap]] w fun e w' => e = Tri (numTo s.data.toList may) ∧ w = w' := by
  obtain ⟨N, hN⟩ : ∃ N, N = M.num s.data.toList := ⟨_, rfl⟩
  have H39 := Lib.hid (number39 s w hs); rw [← hN] at H39
  by_cases he : N.2.2 = 0
  · have hb : (N.2.2 == 0) = true := by simpa using he
    by_cases hm : may N.1 = true
    · have HR := Lib.hid (numTo_ok (s := s.data.toList) (may := may) (.inr (by rw [← hN]; exact hm)))
      have HN := Lib.hid hN
      clear hN he
      go_enter Tryz.func69, Tryz.ntmps69
      go_wp2_with (first
        | (go_at_call 134; refine H39.out.mono ?_; rintro e w' ⟨rfl, rfl⟩)
        | (with_reducible refine (H.out _).mono ?_; rintro e w' ⟨rfl, rfl⟩))
      go_ret3
      exact ⟨by rw [HR.out, ← HN.out]; rfl, rfl⟩
    · have hm' : may N.1 = false := by simpa using hm
      have HR := Lib.hid (numTo_bad (s := s.data.toList) (may := may) (by rw [← hN]; exact he) (by rw [← hN]; exact hm'))
      clear hN he hm
      go_enter Tryz.func69, Tryz.ntmps69
      go_wp2_with (first
        | (go_at_call 134; refine H39.out.mono ?_; rintro e w' ⟨rfl, rfl⟩)
        | (with_reducible refine (H.out _).mono ?_; rintro e w' ⟨rfl, rfl⟩))
      go_ret3
      exact ⟨by rw [HR.out]; rfl, rfl⟩
  · have hb : (N.2.2 == 0) = false := by simpa using he
    have HR := Lib.hid (numTo_ok (s := s.data.toList) (may := may) (.inl (by rw [← hN]; exact he)))
    have HN := Lib.hid hN
    clear hN he
    go_enter Tryz.func69, Tryz.ntmps69
    go_wp2_with (go_at_call 134; refine H39.out.mono ?_; rintro e w' ⟨rfl, rfl⟩)
    go_ret3
    exact ⟨by rw [HR.out, ← HN.out]; rfl, rfl⟩

theorem enters36 (args : Array Value) (w : World) : (callFunc 70 args).run Tryz.prog w = .ok (.enter 70 args) w := by kernel_rfl
set_option maxRecDepth 100000 in
theorem look34 (s : ByteArray) (g : Nat) (most : Int) (w : World) (hs : s.size ≤ maxLen) (hc : w.cell? ⟨g, 0, none⟩ = some (.int .u64 most)) :
    Calls Tryz.prog 68 #[.string s, .pointer (some ⟨g, 0, none⟩)] w fun e w' => e = Tri (numTo s.data.toList (fun n => decide ((n : Int) ≤ most))) ∧ w = w' := by
  have HB := Lib.hid (bounded35 s 70 (.pointer (some ⟨g, 0, none⟩)) (fun n => decide ((n : Int) ≤ most)) w hs enters36 (fun n => may36 n most g w hc))
  go_enter Tryz.func68, Tryz.ntmps68
  go_wp2_with (go_at_call 69; refine HB.out.mono ?_; rintro e w' ⟨rfl, rfl⟩)
  go_ret3
  exact ⟨rfl, rfl⟩

/-- Three results of Int's look. -/
abbrev TriI (p : Nat × Nat × Int) : Ending := .returned (.tuple #[.int .i64 (M.zag p.1), .int .i64 p.2.1, .int .i64 p.2.2])

set_option maxRecDepth 100000 in
theorem look38 (s : ByteArray) (w : World) (hs : s.size ≤ maxLen) :
    Calls Tryz.prog 156 #[.string s] w fun e w' => e = TriI (M.num s.data.toList) ∧ w = w' := by
  have hl := M.num_lt s.data.toList
  have HB := Lib.hid (number39 s w hs)
  have HZ := Lib.hid (zag16 ((M.num s.data.toList).1 : Int) w (by omega) (by omega))
  clear hl
  go_enter Tryz.func156, Tryz.ntmps156
  go_wp2_with (first
    | (go_at_call 134; refine HB.out.mono ?_; rintro e w' ⟨rfl, rfl⟩)
    | (go_at_call 157; refine HZ.out.mono ?_; rintro e w' ⟨rfl, rfl⟩))
  go_ret3
  exact ⟨rfl, rfl⟩

/-- What take makes of bytes and a number. -/
def takeR (s : ByteArray) (n : Int) : ByteArray × Int := if n < 0 then (⟨#[]⟩, 1) else if (s.size : Int) < n then (⟨#[]⟩, 2) else (s.extract 0 n.toNat, 0)

theorem take43 (s : ByteArray) (n : Int) (w : World) (hs : s.size ≤ 1000000) :
    Calls Tryz.prog 139 #[.string s, .int .i64 n] w fun e w' => e = .returned (.tuple #[.string (takeR s n).1, .int .i64 (takeR s n).2]) ∧ Below w.heap.size w w' := by
  by_cases h1 : n < 0
  · have HR : Hid (takeR s n = (⟨#[]⟩, 1)) := by show _ = _; unfold takeR; rw [if_pos h1]
    go_enter Tryz.func139, Tryz.ntmps139
    go_wp2
    go_ret2
    exact ⟨by rw [HR.out]; rfl, Below.refl _ _⟩
  · by_cases h2 : (s.size : Int) < n
    · have HR : Hid (takeR s n = (⟨#[]⟩, 2)) := by show _ = _; unfold takeR; rw [if_neg h1, if_pos h2]
      go_enter Tryz.func139, Tryz.ntmps139
      go_wp2
      go_ret2
      exact ⟨by rw [HR.out]; rfl, Below.refl _ _⟩
    · have HR : Hid (takeR s n = (s.extract 0 n.toNat, 0)) := by show _ = _; unfold takeR; rw [if_neg h1, if_neg h2]
      go_enter Tryz.func139, Tryz.ntmps139
      go_wp2_with (go_at_call 151; refine (clone51 _ _ (by simp [ByteArray.size_extract]; omega)).mono ?_; rintro e w1 ⟨rfl, hb1⟩)
      go_ret2
      exact ⟨by rw [HR.out]; rfl, hb1⟩

theorem takeR_size (s : ByteArray) (n : Int) : (takeR s n).1.size ≤ s.size := by
  unfold takeR
  split
  · exact Nat.zero_le _
  · split
    · exact Nat.zero_le _
    · simp [ByteArray.size_extract]; omega

set_option maxRecDepth 100000 in
theorem look44 (s : ByteArray) (g : Nat) (n : Int) (w : World) (hs : s.size ≤ 1000000) (hc : w.cell? ⟨g, 0, none⟩ = some (.int .i64 n)) :
    Calls Tryz.prog 138 #[.string s, .pointer (some ⟨g, 0, none⟩)] w fun e w' => e = .returned (.tuple #[.string (takeR s n).1, .int .i64 ((takeR s n).1.size : Int), .int .i64 (takeR s n).2]) ∧ Below w.heap.size w w' := by
  have HT := Lib.hid (take43 s n w hs)
  have hz := takeR_size s n
  go_enter Tryz.func138, Tryz.ntmps138
  go_wp2_with (go_at_call 139; refine HT.out.mono ?_; rintro e w1 ⟨rfl, hb1⟩)
  go_ret3
  exact ⟨rfl, hb1⟩

/-- May a row be so long? -/
def rowMay (most : Int) (n : Nat) : Bool := decide (0 ≤ most) && decide ((n : Int) ≤ most)

/-- What Row's look makes of bytes. -/
def rowR (s : ByteArray) (most : Int) : ByteArray × Int × Int :=
  if (numTo s.data.toList (rowMay most)).2.2 = 0 then
    ((takeR (s.extract (numTo s.data.toList (rowMay most)).2.1 s.size) (numTo s.data.toList (rowMay most)).1).1,
      (numTo s.data.toList (rowMay most)).2.1 + ((takeR (s.extract (numTo s.data.toList (rowMay most)).2.1 s.size) (numTo s.data.toList (rowMay most)).1).1.size : Int),
      (takeR (s.extract (numTo s.data.toList (rowMay most)).2.1 s.size) (numTo s.data.toList (rowMay most)).1).2)
  else (⟨#[]⟩, 0, (numTo s.data.toList (rowMay most)).2.2)

theorem numTo_may (s : List UInt8) (may : Nat → Bool) (h : (numTo s may).2.2 = 0) : may (numTo s may).1 = true ∧ numTo s may = M.num s := by
  by_cases hc : (M.num s).2.2 = 0 ∧ may (M.num s).1 = false
  · rw [numTo_bad hc.1 hc.2] at h; simp at h
  · have e : numTo s may = M.num s := by unfold numTo; rw [if_neg hc]
    rw [e] at h ⊢
    refine ⟨?_, rfl⟩
    by_cases hm : may (M.num s).1 = true
    · exact hm
    · exact absurd ⟨h, by simpa using hm⟩ hc

theorem numTo_le (s : ByteArray) (may : Nat → Bool) : (numTo s.data.toList may).2.1 ≤ s.size := by
  unfold numTo
  split
  · exact Nat.zero_le _
  · have h := M.num_form s.data.toList
    have e : s.data.toList.length = s.size := (Lib.size_eq s).symm
    rw [e] at h
    omega
end Go.Proofs.YtnhljfhpfpfniaaGreat

namespace Go.Proofs.YtnhljfhpfpfniaaGreat
open Go.RowKit

/-- The program's reader at block p: what wasn't passed, and the fault. -/
def RdX (w : World) (p : Nat) (s : ByteArray) (e : Int) : Prop := w.heap[p]? = some (.cells #[.string s, .int .i64 e] 139 (0, 0))

theorem RdX.lt {w : World} {p : Nat} {s : ByteArray} {e : Int} (h : RdX w p s e) : p < w.heap.size := lt_of_blk h
theorem RdX.c0 {w : World} {p : Nat} {s : ByteArray} {e : Int} (h : RdX w p s e) : w.cell? ⟨p, 0, none⟩ = some (.string s) := by rw [cell_of_row w p 0 _ 139 (0, 0) h]; rfl
theorem RdX.c1 {w : World} {p : Nat} {s : ByteArray} {e : Int} (h : RdX w p s e) : w.cell? ⟨p, 1, none⟩ = some (.int .i64 e) := by rw [cell_of_row w p 1 _ 139 (0, 0) h]; rfl
theorem RdX.f {w : World} {p : Nat} {s : ByteArray} {e : Int} (h : RdX w p s e) (i : Nat) : w.frozen? ⟨p, i, none⟩ = false := free_of_blkN h i
theorem RdX.set0 {w : World} {p : Nat} {s : ByteArray} {e : Int} (h : RdX w p s e) (t : ByteArray) : RdX (w.setCell ⟨p, 0, none⟩ (.string t)) p t e := set_blkN h 0 (.string t)
theorem RdX.set1 {w : World} {p : Nat} {s : ByteArray} {e : Int} (h : RdX w p s e) (t : Int) : RdX (w.setCell ⟨p, 1, none⟩ (.int .i64 t)) p s t := set_blkN h 1 (.int .i64 t)
theorem RdX.grown {w w' : World} {p : Nat} {s : ByteArray} {e : Int} {r : Option Nat} (h : RdX w p s e) (hg : w.grownBy w' r) (hr : some p ≠ r) : RdX w' p s e := (hg.block p h.lt hr).trans h
theorem RdX.below {w w' : World} {p B : Nat} {s : ByteArray} {e : Int} (h : RdX w p s e) (hb : Below B w w') (hB : p < B) : RdX w' p s e := (hb.block p hB).trans h

theorem fault22 (p : Nat) (s : ByteArray) (e : Int) (w : World) (hX : RdX w p s e) :
    Calls Tryz.prog 27 #[.pointer (some ⟨p, 0, none⟩)] w fun x w' => x = .returned (.int .i64 e) ∧ w = w' := by
  have c1 := hX.c1
  have HX := Lib.hid hX; clear hX
  go_enter Tryz.func27, Tryz.ntmps27
  go_wp2
  go_ret
  exact ⟨rfl, rfl⟩
theorem fault22_nil (w : World) : Calls Tryz.prog 27 #[.pointer none] w fun x w' => x = .returned (.int .i64 1) ∧ w = w' := by
  go_enter Tryz.func27, Tryz.ntmps27
  go_wp2
  go_ret
  exact ⟨rfl, rfl⟩
theorem left23 (p : Nat) (s : ByteArray) (e : Int) (w : World) (hX : RdX w p s e) :
    Calls Tryz.prog 25 #[.pointer (some ⟨p, 0, none⟩)] w fun x w' => x = .returned (.int .i64 (s.size : Int)) ∧ w = w' := by
  have c1 := hX.c0
  have HX := Lib.hid hX; clear hX
  go_enter Tryz.func25, Tryz.ntmps25
  go_wp2
  go_ret
  exact ⟨rfl, rfl⟩
theorem left23_nil (w : World) : Calls Tryz.prog 25 #[.pointer none] w fun x w' => x = .returned (.int .i64 0) ∧ w = w' := by
  go_enter Tryz.func25, Tryz.ntmps25
  go_wp2
  go_ret
  exact ⟨rfl, rfl⟩
theorem read18 (s : ByteArray) (w : World) : Calls Tryz.prog 22 #[.string s] w fun x w' => x = .returned (.pointer (some ⟨w.heap.size, 0, none⟩)) ∧ RdX w' w.heap.size s 0 ∧ Below w.heap.size w w' := by
  go_enter Tryz.func22, Tryz.ntmps22
  go_wp2
  go_ret
  exact ⟨rfl, heap_alloc_new w _, (Below.refl _ w).alloc (Nat.le_refl _) _⟩

/-- A look that goes well, a look that faults: what becomes of the reader. -/
def AfterX (s : ByteArray) (e k er : Int) : ByteArray × Int := if e = 0 then (if er = 0 then (s.extract k.toNat s.size, 0) else (s, er)) else (s, e)

/-- Behind a look: the world that it left, the answer, the reader. -/
def Went (p : Nat) (s : ByteArray) (k : Nat) (er : Int) (R : World → Prop) (x : Ending) (w' : World) : Prop :=
  ∃ W, R W ∧ x = .returned (.bool (er == 0)) ∧ RdX w' p (AfterX s 0 k er).1 (AfterX s 0 k er).2 ∧ W.grownBy w' (some p)

theorem grown_setN (W : World) (p i : Nat) (v : Value) : W.grownBy (W.setCell ⟨p, i, none⟩ v) (some p) :=
  ⟨rfl, rfl, rfl, by simp [World.setCell], fun k _ hk => Below.heap_setCell W ⟨p, i, none⟩ v k (fun e => hk (by rw [e]))⟩
theorem drew_grown {W w' : World} {r : Option Nat} (h : W.drew.grownBy w' r) : W.grownBy w' r := ⟨h.os, h.tape, h.output, h.size, h.block⟩

set_option maxRecDepth 100000 in
set_option maxHeartbeats 1000000 in
theorem going52 (f : Nat) (c1 c2 : Value) (gb p : Nat) (s : ByteArray) (k : Nat) (er : Int) (R : World → Prop) (w : World)
    (HE : ∀ (args : Array Value) (w : World), (callFunc f args).run Tryz.prog w = .ok (.enter f args) w)
    (hX : RdX w p s 0) (hgb : w.cell? ⟨gb, 0, none⟩ = some (.pointer (some ⟨p, 0, none⟩))) (hk : k ≤ s.size)
    (HL : Hid (Calls Tryz.prog f #[.string s, c1, c2] w fun x w' => x = .returned (.tuple #[.int .i64 k, .int .i64 er]) ∧ R w' ∧ RdX w' p s 0 ∧ w'.cell? ⟨gb, 0, none⟩ = some (.pointer (some ⟨p, 0, none⟩)))) :
    Calls Tryz.prog 140 #[.func (.func f) #[] #[c1, c2], .pointer (some ⟨gb, 0, none⟩)] w (Went p s k er R) := by
  by_cases he : er = 0
  · have hb : (er != 0) = false := by simpa using he
    have c0 := hX.c0
    have HF := Lib.hid (fault22 p s 0 w hX)
    have HX := Lib.hid hX; clear hX
    have HR := Lib.hid he; clear he
    go_enter Tryz.func140, Tryz.ntmps140
    go_wp2_with (first
      | (go_at_call 27; refine HF.out.mono ?_; rintro e w' ⟨rfl, rfl⟩)
      | (with_reducible refine HL.out.mono ?_; rintro e w1 ⟨rfl, hR, hX1, hgb1⟩; have c01 := hX1.c0; have f01 := hX1.f 0; have HX1 := Lib.hid hX1; clear hX1 c0 hgb))
    have ht : (k : Int).toNat = k := rfl
    go_region
    all_goals go_wp2
    all_goals go_ret
    all_goals
      refine ⟨w1, hR, ?_, ?_, ?_⟩
      · have e1 : (er == 0) = true := by simpa using HR.out
        rw [e1]; rfl
      · unfold AfterX
        rw [if_pos rfl, if_pos HR.out]
        exact RdX.set0 (w := w1) HX1.out _
      · first | exact drew_grown (grown_setN _ p 0 _) | exact grown_setN _ p 0 _
  · have hb : (er != 0) = true := by simpa using he
    have c0 := hX.c0
    have HF := Lib.hid (fault22 p s 0 w hX)
    have HX := Lib.hid hX; clear hX
    have HR := Lib.hid he; clear he
    go_enter Tryz.func140, Tryz.ntmps140
    go_wp2_with (first
      | (go_at_call 27; refine HF.out.mono ?_; rintro e w' ⟨rfl, rfl⟩)
      | (with_reducible refine HL.out.mono ?_; rintro e w1 ⟨rfl, hR, hX1, hgb1⟩; have f01 := hX1.f 1; have c11 := hX1.c1; have HX1 := Lib.hid hX1; clear hX1 c0 hgb))
    go_ret
    refine ⟨w1, hR, ?_, ?_, grown_setN w1 p 1 _⟩
    · have e1 : (er == 0) = false := by simpa using HR.out
      rw [e1]; rfl
    · unfold AfterX
      rw [if_pos rfl, if_neg HR.out]
      exact HX1.out.set1 er

theorem going52_stop (f : Nat) (caps : Array Value) (gb : Nat) (q : Value) (e : Int) (w : World) (he : e ≠ 0)
    (HF : Hid (Calls Tryz.prog 27 #[q] w fun x w' => x = .returned (.int .i64 e) ∧ w = w')) (hgb : w.cell? ⟨gb, 0, none⟩ = some q) :
    Calls Tryz.prog 140 #[.func (.func f) #[] caps, .pointer (some ⟨gb, 0, none⟩)] w fun x w' => x = .returned (.bool false) ∧ w = w' := by
  have hb : (e != 0) = true := by simpa using he
  have HR := Lib.hid he; clear he
  go_enter Tryz.func140, Tryz.ntmps140
  go_wp2_with (go_at_call 27; refine HF.out.mono ?_; rintro e w' ⟨rfl, rfl⟩)
  go_ret
  exact ⟨rfl, rfl⟩

set_option maxRecDepth 100000 in
theorem got48 (cap : Value) (gr gg : Nat) (s : ByteArray) (v : Int) (k er : Int) (old : Value) (w : World)
    (hgr : w.cell? ⟨gr, 0, none⟩ = some (.func (.func 68) #[] #[cap])) (hgg : w.heap[gg]? = some (.cells #[old] 50 (0, 0)))
    (HL : Hid (Calls Tryz.prog 68 #[.string s, cap] w fun x w' => x = .returned (.tuple #[.int .u64 v, .int .i64 k, .int .i64 er]) ∧ Below w.heap.size w w')) :
    Calls Tryz.prog 133 #[.string s, .pointer (some ⟨gr, 0, none⟩), .pointer (some ⟨gg, 0, none⟩)] w fun x w' => x = .returned (.tuple #[.int .i64 k, .int .i64 er]) ∧ w'.heap[gg]? = some (.cells #[.int .u64 v] 50 (0, 0)) ∧ w.grownBy w' (some gg) := by
  have HG := Lib.hid hgg; clear hgg
  go_enter Tryz.func133, Tryz.ntmps133
  go_wp2_with (with_reducible refine HL.out.mono ?_; rintro e w1 ⟨rfl, hb1⟩; have HG1 := Lib.hid ((hb1.block gg (lt_of_blk HG.out)).trans HG.out); have cg := cell_of_one HG1.out; have fg := free_of_blkN HG1.out 0)
  go_ret2
  refine ⟨rfl, set_blkN HG1.out 0 (.int .u64 v), ?_⟩
  have this := grown_setN w1 gg 0 (.int .u64 v)
  exact ⟨this.os.trans hb1.os, this.tape.trans hb1.tape, this.output.trans hb1.output, Nat.le_trans hb1.size this.size, fun i hi hne => (this.block i (by have := hb1.size; omega) hne).trans (hb1.block i hi)⟩

set_option maxRecDepth 100000 in
theorem got49 (gr gg : Nat) (s : ByteArray) (v : Int) (k er : Int) (old : Value) (w : World)
    (hgr : w.cell? ⟨gr, 0, none⟩ = some (.func (.func 156) #[] #[])) (hgg : w.heap[gg]? = some (.cells #[old] 2 (0, 0)))
    (HL : Hid (Calls Tryz.prog 156 #[.string s] w fun x w' => x = .returned (.tuple #[.int .i64 v, .int .i64 k, .int .i64 er]) ∧ Below w.heap.size w w')) :
    Calls Tryz.prog 161 #[.string s, .pointer (some ⟨gr, 0, none⟩), .pointer (some ⟨gg, 0, none⟩)] w fun x w' => x = .returned (.tuple #[.int .i64 k, .int .i64 er]) ∧ w'.heap[gg]? = some (.cells #[.int .i64 v] 2 (0, 0)) ∧ w.grownBy w' (some gg) := by
  have HG := Lib.hid hgg; clear hgg
  go_enter Tryz.func161, Tryz.ntmps161
  go_wp2_with (with_reducible refine HL.out.mono ?_; rintro e w1 ⟨rfl, hb1⟩; have HG1 := Lib.hid ((hb1.block gg (lt_of_blk HG.out)).trans HG.out); have cg := cell_of_one HG1.out; have fg := free_of_blkN HG1.out 0)
  go_ret2
  refine ⟨rfl, set_blkN HG1.out 0 (.int .i64 v), ?_⟩
  have this := grown_setN w1 gg 0 (.int .i64 v)
  exact ⟨this.os.trans hb1.os, this.tape.trans hb1.tape, this.output.trans hb1.output, Nat.le_trans hb1.size this.size, fun i hi hne => (this.block i (by have := hb1.size; omega) hne).trans (hb1.block i hi)⟩

set_option maxRecDepth 100000 in
theorem got50 (f : Nat) (cap : Value) (gr gg : Nat) (s : ByteArray) (v : ByteArray) (k er : Int) (old : Value) (w : World)
    (HE : ∀ (args : Array Value) (w : World), (callFunc f args).run Tryz.prog w = .ok (.enter f args) w)
    (hgr : w.cell? ⟨gr, 0, none⟩ = some (.func (.func f) #[] #[cap])) (hgg : w.heap[gg]? = some (.cells #[old] 9 (0, 0)))
    (HL : Hid (Calls Tryz.prog f #[.string s, cap] w fun x w' => x = .returned (.tuple #[.string v, .int .i64 k, .int .i64 er]) ∧ Below w.heap.size w w')) :
    Calls Tryz.prog 150 #[.string s, .pointer (some ⟨gr, 0, none⟩), .pointer (some ⟨gg, 0, none⟩)] w fun x w' => x = .returned (.tuple #[.int .i64 k, .int .i64 er]) ∧ w'.heap[gg]? = some (.cells #[.string v] 9 (0, 0)) ∧ w.grownBy w' (some gg) := by
  have HG := Lib.hid hgg; clear hgg
  go_enter Tryz.func150, Tryz.ntmps150
  go_wp2_with (with_reducible refine HL.out.mono ?_; rintro e w1 ⟨rfl, hb1⟩; have HG1 := Lib.hid ((hb1.block gg (lt_of_blk HG.out)).trans HG.out); have cg := cell_of_one HG1.out; have fg := free_of_blkN HG1.out 0)
  go_ret2
  refine ⟨rfl, set_blkN HG1.out 0 (.string v), ?_⟩
  have this := grown_setN w1 gg 0 (.string v)
  exact ⟨this.os.trans hb1.os, this.tape.trans hb1.tape, this.output.trans hb1.output, Nat.le_trans hb1.size this.size, fun i hi hne => (this.block i (by have := hb1.size; omega) hne).trans (hb1.block i hi)⟩

theorem enters48 (args : Array Value) (w : World) : (callFunc 133 args).run Tryz.prog w = .ok (.enter 133 args) w := by kernel_rfl
theorem enters49 (args : Array Value) (w : World) : (callFunc 161 args).run Tryz.prog w = .ok (.enter 161 args) w := by kernel_rfl
theorem enters50 (args : Array Value) (w : World) : (callFunc 150 args).run Tryz.prog w = .ok (.enter 150 args) w := by kernel_rfl
theorem enters44 (args : Array Value) (w : World) : (callFunc 138 args).run Tryz.prog w = .ok (.enter 138 args) w := by kernel_rfl
end Go.Proofs.YtnhljfhpfpfniaaGreat

namespace Go.Proofs.YtnhljfhpfpfniaaGreat
open Go.RowKit

/-- The first, if there is no fault. -/
def pickV (er : Int) (a b : Value) : Value := if er = 0 then a else b

set_option maxRecDepth 100000 in
set_option maxHeartbeats 1000000 in
theorem answer33 (cap : Value) (p : Nat) (s : ByteArray) (v : Int) (k : Nat) (er : Int) (w : World) (hX : RdX w p s 0) (hk : k ≤ s.size)
    (HL : Hid (∀ W : World, Below w.heap.size w W → Calls Tryz.prog 68 #[.string s, cap] W fun x w' => x = .returned (.tuple #[.int .u64 v, .int .i64 k, .int .i64 er]) ∧ Below W.heap.size W w')) :
    Calls Tryz.prog 67 #[.pointer (some ⟨p, 0, none⟩), .func (.func 68) #[] #[cap]] w fun x w' => x = .returned (pickV er (.int .u64 v) (.int .u64 0)) ∧ RdX w' p (AfterX s 0 k er).1 (AfterX s 0 k er).2 ∧ w.grownBy w' (some p) := by
  have hp := hX.lt
  have HG : Hid (Calls Tryz.prog 140 #[.func (.func 133) #[] #[.pointer (some ⟨w.heap.size, 0, none⟩), .pointer (some ⟨w.heap.size + 1, 0, none⟩)], .pointer (some ⟨w.heap.size + 1 + 1, 0, none⟩)]
      (((w.alloc (.cells #[.func (.func 68) #[] #[cap]] 144)).alloc (.cells #[.int .u64 0] 50)).alloc (.cells #[.pointer (some ⟨p, 0, none⟩)] 70)) fun x w' => x = .returned (.bool (er == 0)) ∧ RdX w' p (AfterX s 0 k er).1 (AfterX s 0 k er).2 ∧ w'.heap[w.heap.size + 1]? = some (.cells #[.int .u64 v] 50 (0, 0)) ∧ w.grownBy w' (some p)) := by
    have hb1 : Below w.heap.size w (((w.alloc (.cells #[.func (.func 68) #[] #[cap]] 144)).alloc (.cells #[.int .u64 0] 50)).alloc (.cells #[.pointer (some ⟨p, 0, none⟩)] 70)) :=
      (((Below.refl _ w).alloc (Nat.le_refl _) _).alloc (by simp) _).alloc (by simp; omega) _
    have e1 : (w.alloc (.cells #[.func (.func 68) #[] #[cap]] 144)).heap.size = w.heap.size + 1 := by simp
    have e2 : ((w.alloc (.cells #[.func (.func 68) #[] #[cap]] 144)).alloc (.cells #[.int .u64 0] 50)).heap.size = w.heap.size + 1 + 1 := by simp
    have e3 : (((w.alloc (.cells #[.func (.func 68) #[] #[cap]] 144)).alloc (.cells #[.int .u64 0] 50)).alloc (.cells #[.pointer (some ⟨p, 0, none⟩)] 70)).heap.size = w.heap.size + 1 + 1 + 1 := by simp
    have h0 := heap_alloc_new w (.cells #[.func (.func 68) #[] #[cap]] 144)
    have h1 := heap_alloc_new (w.alloc (.cells #[.func (.func 68) #[] #[cap]] 144)) (.cells #[.int .u64 0] 50)
    have h2 := heap_alloc_new ((w.alloc (.cells #[.func (.func 68) #[] #[cap]] 144)).alloc (.cells #[.int .u64 0] 50)) (.cells #[.pointer (some ⟨p, 0, none⟩)] 70)
    rw [e1] at h1
    rw [e2] at h2
    generalize hw3 : ((w.alloc (.cells #[.func (.func 68) #[] #[cap]] 144)).alloc (.cells #[.int .u64 0] 50)).alloc (.cells #[.pointer (some ⟨p, 0, none⟩)] 70) = w3 at *
    have g0 : w3.heap[w.heap.size]? = some (.cells #[.func (.func 68) #[] #[cap]] 144) := by
      rw [← hw3, Below.heap_alloc _ _ _ (by rw [e2]; omega), Below.heap_alloc _ _ _ (by rw [e1]; omega)]; exact h0
    have g1 : w3.heap[w.heap.size + 1]? = some (.cells #[.int .u64 0] 50) := by
      rw [← hw3, Below.heap_alloc _ _ _ (by rw [e2]; omega)]; exact h1
    have hX3 : RdX w3 p s 0 := hX.below hb1 hp
    have hgb3 := cell_of_one h2
    have HL3 := Lib.hid (got48 cap w.heap.size (w.heap.size + 1) s v k er (.int .u64 0) w3 (cell_of_one g0) g1 (HL.out w3 hb1))
    have HW := going52 133 (.pointer (some ⟨w.heap.size, 0, none⟩)) (.pointer (some ⟨w.heap.size + 1, 0, none⟩)) (w.heap.size + 1 + 1) p s k er
      (fun W => W.heap[w.heap.size + 1]? = some (.cells #[.int .u64 v] 50 (0, 0)) ∧ w3.grownBy W (some (w.heap.size + 1))) w3 enters48 hX3 hgb3 hk
      (HL3.out.mono fun x w' ⟨hx, hv, hg⟩ => ⟨hx, ⟨hv, hg⟩, hX3.grown hg (by simp; omega), by
        rw [World.cell?_of_block (w := w3) (hg.block (w.heap.size + 1 + 1) (by omega) (by simp))]; exact hgb3⟩)
    refine HW.mono fun x w' hw => ?_
    obtain ⟨W, ⟨hv, hg⟩, hx, hr, hg2⟩ := hw
    refine ⟨hx, hr, (hg2.block _ (lt_of_blk hv) (by simp; omega)).trans hv, ?_⟩
    have s1 := hg.size
    exact ⟨hg2.os.trans (hg.os.trans hb1.os), hg2.tape.trans (hg.tape.trans hb1.tape), hg2.output.trans (hg.output.trans hb1.output), by have := hg2.size; omega, fun i hi hne => (hg2.block i (by omega) hne).trans ((hg.block i (by omega) (by simp; omega)).trans (hb1.block i hi))⟩
  have HX := Lib.hid hX; clear hX
  by_cases he : er = 0
  · have hb : (er == 0) = true := by simpa using he
    have HV : Hid (pickV er (.int .u64 v) (.int .u64 0) = .int .u64 v) := if_pos he
    clear he
    go_enter Tryz.func67, Tryz.ntmps67
    go_wp2_with (first | (go_at_call 73; go_in) | (go_at_call 140; refine HG.out.mono ?_; rintro e w4 ⟨rfl, hr, hv, hg⟩; have cg := cell_of_one hv; have HR := Lib.hid hr; have HVV := Lib.hid hv; clear hr hv))
    go_ret
    exact ⟨by rw [HV.out]; rfl, HR.out, hg⟩
  · have hb : (er == 0) = false := by simpa using he
    have HV : Hid (pickV er (.int .u64 v) (.int .u64 0) = .int .u64 0) := if_neg he
    clear he
    go_enter Tryz.func67, Tryz.ntmps67
    go_wp2_with (first | (go_at_call 73; go_in) | (go_at_call 140; refine HG.out.mono ?_; rintro e w4 ⟨rfl, hr, hv, hg⟩; have HR := Lib.hid hr; have HVV := Lib.hid hv; clear hr hv))
    go_ret
    exact ⟨by rw [HV.out]; rfl, HR.out, hg⟩

set_option maxRecDepth 100000 in
set_option maxHeartbeats 1000000 in
theorem answer37 (p : Nat) (s : ByteArray) (v : Int) (k : Nat) (er : Int) (w : World) (hX : RdX w p s 0) (hk : k ≤ s.size)
    (HL : Hid (∀ W : World, Below w.heap.size w W → Calls Tryz.prog 156 #[.string s] W fun x w' => x = .returned (.tuple #[.int .i64 v, .int .i64 k, .int .i64 er]) ∧ Below W.heap.size W w')) :
    Calls Tryz.prog 155 #[.pointer (some ⟨p, 0, none⟩), .func (.func 156) #[] #[]] w fun x w' => x = .returned (pickV er (.int .i64 v) (.int .i64 0)) ∧ RdX w' p (AfterX s 0 k er).1 (AfterX s 0 k er).2 ∧ w.grownBy w' (some p) := by
  have hp := hX.lt
  have HG : Hid (Calls Tryz.prog 140 #[.func (.func 161) #[] #[.pointer (some ⟨w.heap.size, 0, none⟩), .pointer (some ⟨w.heap.size + 1, 0, none⟩)], .pointer (some ⟨w.heap.size + 1 + 1, 0, none⟩)]
      (((w.alloc (.cells #[.func (.func 156) #[] #[]] 214)).alloc (.cells #[.int .i64 0] 2)).alloc (.cells #[.pointer (some ⟨p, 0, none⟩)] 70)) fun x w' => x = .returned (.bool (er == 0)) ∧ RdX w' p (AfterX s 0 k er).1 (AfterX s 0 k er).2 ∧ w'.heap[w.heap.size + 1]? = some (.cells #[.int .i64 v] 2 (0, 0)) ∧ w.grownBy w' (some p)) := by
    have hb1 : Below w.heap.size w (((w.alloc (.cells #[.func (.func 156) #[] #[]] 214)).alloc (.cells #[.int .i64 0] 2)).alloc (.cells #[.pointer (some ⟨p, 0, none⟩)] 70)) :=
      (((Below.refl _ w).alloc (Nat.le_refl _) _).alloc (by simp) _).alloc (by simp; omega) _
    have e1 : (w.alloc (.cells #[.func (.func 156) #[] #[]] 214)).heap.size = w.heap.size + 1 := by simp
    have e2 : ((w.alloc (.cells #[.func (.func 156) #[] #[]] 214)).alloc (.cells #[.int .i64 0] 2)).heap.size = w.heap.size + 1 + 1 := by simp
    have e3 : (((w.alloc (.cells #[.func (.func 156) #[] #[]] 214)).alloc (.cells #[.int .i64 0] 2)).alloc (.cells #[.pointer (some ⟨p, 0, none⟩)] 70)).heap.size = w.heap.size + 1 + 1 + 1 := by simp
    have h0 := heap_alloc_new w (.cells #[.func (.func 156) #[] #[]] 214)
    have h1 := heap_alloc_new (w.alloc (.cells #[.func (.func 156) #[] #[]] 214)) (.cells #[.int .i64 0] 2)
    have h2 := heap_alloc_new ((w.alloc (.cells #[.func (.func 156) #[] #[]] 214)).alloc (.cells #[.int .i64 0] 2)) (.cells #[.pointer (some ⟨p, 0, none⟩)] 70)
    rw [e1] at h1
    rw [e2] at h2
    generalize hw3 : ((w.alloc (.cells #[.func (.func 156) #[] #[]] 214)).alloc (.cells #[.int .i64 0] 2)).alloc (.cells #[.pointer (some ⟨p, 0, none⟩)] 70) = w3 at *
    have g0 : w3.heap[w.heap.size]? = some (.cells #[.func (.func 156) #[] #[]] 214) := by
      rw [← hw3, Below.heap_alloc _ _ _ (by rw [e2]; omega), Below.heap_alloc _ _ _ (by rw [e1]; omega)]; exact h0
    have g1 : w3.heap[w.heap.size + 1]? = some (.cells #[.int .i64 0] 2) := by
      rw [← hw3, Below.heap_alloc _ _ _ (by rw [e2]; omega)]; exact h1
    have hX3 : RdX w3 p s 0 := hX.below hb1 hp
    have hgb3 := cell_of_one h2
    have HL3 := Lib.hid (got49 w.heap.size (w.heap.size + 1) s v k er (.int .i64 0) w3 (cell_of_one g0) g1 (HL.out w3 hb1))
    have HW := going52 161 (.pointer (some ⟨w.heap.size, 0, none⟩)) (.pointer (some ⟨w.heap.size + 1, 0, none⟩)) (w.heap.size + 1 + 1) p s k er
      (fun W => W.heap[w.heap.size + 1]? = some (.cells #[.int .i64 v] 2 (0, 0)) ∧ w3.grownBy W (some (w.heap.size + 1))) w3 enters49 hX3 hgb3 hk
      (HL3.out.mono fun x w' ⟨hx, hv, hg⟩ => ⟨hx, ⟨hv, hg⟩, hX3.grown hg (by simp; omega), by
        rw [World.cell?_of_block (w := w3) (hg.block (w.heap.size + 1 + 1) (by omega) (by simp))]; exact hgb3⟩)
    refine HW.mono fun x w' hw => ?_
    obtain ⟨W, ⟨hv, hg⟩, hx, hr, hg2⟩ := hw
    refine ⟨hx, hr, (hg2.block _ (lt_of_blk hv) (by simp; omega)).trans hv, ?_⟩
    have s1 := hg.size
    exact ⟨hg2.os.trans (hg.os.trans hb1.os), hg2.tape.trans (hg.tape.trans hb1.tape), hg2.output.trans (hg.output.trans hb1.output), by have := hg2.size; omega, fun i hi hne => (hg2.block i (by omega) hne).trans ((hg.block i (by omega) (by simp; omega)).trans (hb1.block i hi))⟩
  have HX := Lib.hid hX; clear hX
  by_cases he : er = 0
  · have hb : (er == 0) = true := by simpa using he
    have HV : Hid (pickV er (.int .i64 v) (.int .i64 0) = .int .i64 v) := if_pos he
    clear he
    go_enter Tryz.func155, Tryz.ntmps155
    go_wp2_with (first | (go_at_call 73; go_in) | (go_at_call 140; refine HG.out.mono ?_; rintro e w4 ⟨rfl, hr, hv, hg⟩; have cg := cell_of_one hv; have HR := Lib.hid hr; have HVV := Lib.hid hv; clear hr hv))
    go_ret
    exact ⟨by rw [HV.out]; rfl, HR.out, hg⟩
  · have hb : (er == 0) = false := by simpa using he
    have HV : Hid (pickV er (.int .i64 v) (.int .i64 0) = .int .i64 0) := if_neg he
    clear he
    go_enter Tryz.func155, Tryz.ntmps155
    go_wp2_with (first | (go_at_call 73; go_in) | (go_at_call 140; refine HG.out.mono ?_; rintro e w4 ⟨rfl, hr, hv, hg⟩; have HR := Lib.hid hr; have HVV := Lib.hid hv; clear hr hv))
    go_ret
    exact ⟨by rw [HV.out]; rfl, HR.out, hg⟩

set_option maxRecDepth 100000 in
set_option maxHeartbeats 1000000 in
theorem answer40 (f : Nat) (cap : Value) (p : Nat) (s : ByteArray) (v : ByteArray) (k : Nat) (er : Int) (w : World) (HE : ∀ (args : Array Value) (w : World), (callFunc f args).run Tryz.prog w = .ok (.enter f args) w) (hX : RdX w p s 0) (hk : k ≤ s.size)
    (HL : Hid (∀ W : World, Below w.heap.size w W → Calls Tryz.prog f #[.string s, cap] W fun x w' => x = .returned (.tuple #[.string v, .int .i64 k, .int .i64 er]) ∧ Below W.heap.size W w')) :
    Calls Tryz.prog 137 #[.pointer (some ⟨p, 0, none⟩), .func (.func f) #[] #[cap]] w fun x w' => x = .returned (pickV er (.string v) (.string ⟨#[]⟩)) ∧ RdX w' p (AfterX s 0 k er).1 (AfterX s 0 k er).2 ∧ w.grownBy w' (some p) := by
  have hp := hX.lt
  have HG : Hid (Calls Tryz.prog 140 #[.func (.func 150) #[] #[.pointer (some ⟨w.heap.size, 0, none⟩), .pointer (some ⟨w.heap.size + 1, 0, none⟩)], .pointer (some ⟨w.heap.size + 1 + 1, 0, none⟩)]
      (((w.alloc (.cells #[.func (.func f) #[] #[cap]] 198)).alloc (.cells #[.string ⟨#[]⟩] 9)).alloc (.cells #[.pointer (some ⟨p, 0, none⟩)] 70)) fun x w' => x = .returned (.bool (er == 0)) ∧ RdX w' p (AfterX s 0 k er).1 (AfterX s 0 k er).2 ∧ w'.heap[w.heap.size + 1]? = some (.cells #[.string v] 9 (0, 0)) ∧ w.grownBy w' (some p)) := by
    have hb1 : Below w.heap.size w (((w.alloc (.cells #[.func (.func f) #[] #[cap]] 198)).alloc (.cells #[.string ⟨#[]⟩] 9)).alloc (.cells #[.pointer (some ⟨p, 0, none⟩)] 70)) :=
      (((Below.refl _ w).alloc (Nat.le_refl _) _).alloc (by simp) _).alloc (by simp; omega) _
    have e1 : (w.alloc (.cells #[.func (.func f) #[] #[cap]] 198)).heap.size = w.heap.size + 1 := by simp
    have e2 : ((w.alloc (.cells #[.func (.func f) #[] #[cap]] 198)).alloc (.cells #[.string ⟨#[]⟩] 9)).heap.size = w.heap.size + 1 + 1 := by simp
    have e3 : (((w.alloc (.cells #[.func (.func f) #[] #[cap]] 198)).alloc (.cells #[.string ⟨#[]⟩] 9)).alloc (.cells #[.pointer (some ⟨p, 0, none⟩)] 70)).heap.size = w.heap.size + 1 + 1 + 1 := by simp
    have h0 := heap_alloc_new w (.cells #[.func (.func f) #[] #[cap]] 198)
    have h1 := heap_alloc_new (w.alloc (.cells #[.func (.func f) #[] #[cap]] 198)) (.cells #[.string ⟨#[]⟩] 9)
    have h2 := heap_alloc_new ((w.alloc (.cells #[.func (.func f) #[] #[cap]] 198)).alloc (.cells #[.string ⟨#[]⟩] 9)) (.cells #[.pointer (some ⟨p, 0, none⟩)] 70)
    rw [e1] at h1
    rw [e2] at h2
    generalize hw3 : ((w.alloc (.cells #[.func (.func f) #[] #[cap]] 198)).alloc (.cells #[.string ⟨#[]⟩] 9)).alloc (.cells #[.pointer (some ⟨p, 0, none⟩)] 70) = w3 at *
    have g0 : w3.heap[w.heap.size]? = some (.cells #[.func (.func f) #[] #[cap]] 198) := by
      rw [← hw3, Below.heap_alloc _ _ _ (by rw [e2]; omega), Below.heap_alloc _ _ _ (by rw [e1]; omega)]; exact h0
    have g1 : w3.heap[w.heap.size + 1]? = some (.cells #[.string ⟨#[]⟩] 9) := by
      rw [← hw3, Below.heap_alloc _ _ _ (by rw [e2]; omega)]; exact h1
    have hX3 : RdX w3 p s 0 := hX.below hb1 hp
    have hgb3 := cell_of_one h2
    have HL3 := Lib.hid (got50 f cap w.heap.size (w.heap.size + 1) s v k er (.string ⟨#[]⟩) w3 HE (cell_of_one g0) g1 (HL.out w3 hb1))
    have HW := going52 150 (.pointer (some ⟨w.heap.size, 0, none⟩)) (.pointer (some ⟨w.heap.size + 1, 0, none⟩)) (w.heap.size + 1 + 1) p s k er
      (fun W => W.heap[w.heap.size + 1]? = some (.cells #[.string v] 9 (0, 0)) ∧ w3.grownBy W (some (w.heap.size + 1))) w3 enters50 hX3 hgb3 hk
      (HL3.out.mono fun x w' ⟨hx, hv, hg⟩ => ⟨hx, ⟨hv, hg⟩, hX3.grown hg (by simp; omega), by
        rw [World.cell?_of_block (w := w3) (hg.block (w.heap.size + 1 + 1) (by omega) (by simp))]; exact hgb3⟩)
    refine HW.mono fun x w' hw => ?_
    obtain ⟨W, ⟨hv, hg⟩, hx, hr, hg2⟩ := hw
    refine ⟨hx, hr, (hg2.block _ (lt_of_blk hv) (by simp; omega)).trans hv, ?_⟩
    have s1 := hg.size
    exact ⟨hg2.os.trans (hg.os.trans hb1.os), hg2.tape.trans (hg.tape.trans hb1.tape), hg2.output.trans (hg.output.trans hb1.output), by have := hg2.size; omega, fun i hi hne => (hg2.block i (by omega) hne).trans ((hg.block i (by omega) (by simp; omega)).trans (hb1.block i hi))⟩
  have HX := Lib.hid hX; clear hX
  by_cases he : er = 0
  · have hb : (er == 0) = true := by simpa using he
    have HV : Hid (pickV er (.string v) (.string ⟨#[]⟩) = .string v) := if_pos he
    clear he
    go_enter Tryz.func137, Tryz.ntmps137
    go_wp2_with (first | (go_at_call 73; go_in) | (go_at_call 140; refine HG.out.mono ?_; rintro e w4 ⟨rfl, hr, hv, hg⟩; have cg := cell_of_one hv; have HR := Lib.hid hr; have HVV := Lib.hid hv; clear hr hv))
    go_ret
    exact ⟨by rw [HV.out]; rfl, HR.out, hg⟩
  · have hb : (er == 0) = false := by simpa using he
    have HV : Hid (pickV er (.string v) (.string ⟨#[]⟩) = .string ⟨#[]⟩) := if_neg he
    clear he
    go_enter Tryz.func137, Tryz.ntmps137
    go_wp2_with (first | (go_at_call 73; go_in) | (go_at_call 140; refine HG.out.mono ?_; rintro e w4 ⟨rfl, hr, hv, hg⟩; have HR := Lib.hid hr; have HVV := Lib.hid hv; clear hr hv))
    go_ret
    exact ⟨by rw [HV.out]; rfl, HR.out, hg⟩
end Go.Proofs.YtnhljfhpfpfniaaGreat

namespace Go.Proofs.YtnhljfhpfpfniaaGreat
open Go.RowKit

set_option maxRecDepth 100000 in
set_option maxHeartbeats 1000000 in
theorem going52_one (f : Nat) (c1 : Value) (gb p : Nat) (s : ByteArray) (k : Nat) (er : Int) (R : World → Prop) (w : World)
    (HE : ∀ (args : Array Value) (w : World), (callFunc f args).run Tryz.prog w = .ok (.enter f args) w)
    (hX : RdX w p s 0) (hgb : w.cell? ⟨gb, 0, none⟩ = some (.pointer (some ⟨p, 0, none⟩))) (hk : k ≤ s.size)
    (HL : Hid (Calls Tryz.prog f #[.string s, c1] w fun x w' => x = .returned (.tuple #[.int .i64 k, .int .i64 er]) ∧ R w' ∧ RdX w' p s 0 ∧ w'.cell? ⟨gb, 0, none⟩ = some (.pointer (some ⟨p, 0, none⟩)))) :
    Calls Tryz.prog 140 #[.func (.func f) #[] #[c1], .pointer (some ⟨gb, 0, none⟩)] w (Went p s k er R) := by
  by_cases he : er = 0
  · have hb : (er != 0) = false := by simpa using he
    have c0 := hX.c0
    have HF := Lib.hid (fault22 p s 0 w hX)
    have HX := Lib.hid hX; clear hX
    have HR := Lib.hid he; clear he
    go_enter Tryz.func140, Tryz.ntmps140
    go_wp2_with (first
      | (go_at_call 27; refine HF.out.mono ?_; rintro e w' ⟨rfl, rfl⟩)
      | (with_reducible refine HL.out.mono ?_; rintro e w1 ⟨rfl, hR, hX1, hgb1⟩; have c01 := hX1.c0; have f01 := hX1.f 0; have HX1 := Lib.hid hX1; clear hX1 c0 hgb))
    have ht : (k : Int).toNat = k := rfl
    go_region
    all_goals go_wp2
    all_goals go_ret
    all_goals
      refine ⟨w1, hR, ?_, ?_, ?_⟩
      · have e1 : (er == 0) = true := by simpa using HR.out
        rw [e1]; rfl
      · unfold AfterX
        rw [if_pos rfl, if_pos HR.out]
        exact RdX.set0 (w := w1) HX1.out _
      · first | exact drew_grown (grown_setN _ p 0 _) | exact grown_setN _ p 0 _
  · have hb : (er != 0) = true := by simpa using he
    have c0 := hX.c0
    have HF := Lib.hid (fault22 p s 0 w hX)
    have HX := Lib.hid hX; clear hX
    have HR := Lib.hid he; clear he
    go_enter Tryz.func140, Tryz.ntmps140
    go_wp2_with (first
      | (go_at_call 27; refine HF.out.mono ?_; rintro e w' ⟨rfl, rfl⟩)
      | (with_reducible refine HL.out.mono ?_; rintro e w1 ⟨rfl, hR, hX1, hgb1⟩; have f01 := hX1.f 1; have c11 := hX1.c1; have HX1 := Lib.hid hX1; clear hX1 c0 hgb))
    go_ret
    refine ⟨w1, hR, ?_, ?_, grown_setN w1 p 1 _⟩
    · have e1 : (er == 0) = false := by simpa using HR.out
      rw [e1]; rfl
    · unfold AfterX
      rw [if_pos rfl, if_neg HR.out]
      exact HX1.out.set1 er


theorem stop33 (f : Nat) (caps : Array Value) (q : Option Addr) (e : Int) (w : World) (he : e ≠ 0)
    (HF : Hid (∀ W : World, Below w.heap.size w W → Calls Tryz.prog 27 #[.pointer q] W fun x w' => x = .returned (.int .i64 e) ∧ W = w')) :
    Calls Tryz.prog 67 #[.pointer q, .func (.func f) #[] caps] w fun x w' => x = .returned (.int .u64 0) ∧ Below w.heap.size w w' := by
  have hb1 : Below w.heap.size w (((w.alloc (.cells #[.func (.func f) #[] caps] 144)).alloc (.cells #[.int .u64 0] 50)).alloc (.cells #[.pointer q] 70)) :=
    (((Below.refl _ w).alloc (Nat.le_refl _) _).alloc (by simp) _).alloc (by simp; omega) _
  have e2 : ((w.alloc (.cells #[.func (.func f) #[] caps] 144)).alloc (.cells #[.int .u64 0] 50)).heap.size = w.heap.size + 1 + 1 := by simp
  have h2 := heap_alloc_new ((w.alloc (.cells #[.func (.func f) #[] caps] 144)).alloc (.cells #[.int .u64 0] 50)) (.cells #[.pointer q] 70)
  rw [e2] at h2
  have HG := Lib.hid (going52_stop 133 #[.pointer (some ⟨w.heap.size, 0, none⟩), .pointer (some ⟨w.heap.size + 1, 0, none⟩)] (w.heap.size + 1 + 1) (.pointer q) e _ he (HF.out _ hb1) (cell_of_one h2))
  clear h2 e2 he
  go_enter Tryz.func67, Tryz.ntmps67
  go_wp2_with (first | (go_at_call 73; go_in) | (go_at_call 140; refine HG.out.mono ?_; rintro e w4 ⟨rfl, rfl⟩))
  go_ret
  exact ⟨rfl, hb1⟩

theorem stop37 (f : Nat) (caps : Array Value) (q : Option Addr) (e : Int) (w : World) (he : e ≠ 0)
    (HF : Hid (∀ W : World, Below w.heap.size w W → Calls Tryz.prog 27 #[.pointer q] W fun x w' => x = .returned (.int .i64 e) ∧ W = w')) :
    Calls Tryz.prog 155 #[.pointer q, .func (.func f) #[] caps] w fun x w' => x = .returned (.int .i64 0) ∧ Below w.heap.size w w' := by
  have hb1 : Below w.heap.size w (((w.alloc (.cells #[.func (.func f) #[] caps] 214)).alloc (.cells #[.int .i64 0] 2)).alloc (.cells #[.pointer q] 70)) :=
    (((Below.refl _ w).alloc (Nat.le_refl _) _).alloc (by simp) _).alloc (by simp; omega) _
  have e2 : ((w.alloc (.cells #[.func (.func f) #[] caps] 214)).alloc (.cells #[.int .i64 0] 2)).heap.size = w.heap.size + 1 + 1 := by simp
  have h2 := heap_alloc_new ((w.alloc (.cells #[.func (.func f) #[] caps] 214)).alloc (.cells #[.int .i64 0] 2)) (.cells #[.pointer q] 70)
  rw [e2] at h2
  have HG := Lib.hid (going52_stop 161 #[.pointer (some ⟨w.heap.size, 0, none⟩), .pointer (some ⟨w.heap.size + 1, 0, none⟩)] (w.heap.size + 1 + 1) (.pointer q) e _ he (HF.out _ hb1) (cell_of_one h2))
  clear h2 e2 he
  go_enter Tryz.func155, Tryz.ntmps155
  go_wp2_with (first | (go_at_call 73; go_in) | (go_at_call 140; refine HG.out.mono ?_; rintro e w4 ⟨rfl, rfl⟩))
  go_ret
  exact ⟨rfl, hb1⟩

theorem stop40 (f : Nat) (caps : Array Value) (q : Option Addr) (e : Int) (w : World) (he : e ≠ 0)
    (HF : Hid (∀ W : World, Below w.heap.size w W → Calls Tryz.prog 27 #[.pointer q] W fun x w' => x = .returned (.int .i64 e) ∧ W = w')) :
    Calls Tryz.prog 137 #[.pointer q, .func (.func f) #[] caps] w fun x w' => x = .returned (.string ⟨#[]⟩) ∧ Below w.heap.size w w' := by
  have hb1 : Below w.heap.size w (((w.alloc (.cells #[.func (.func f) #[] caps] 198)).alloc (.cells #[.string ⟨#[]⟩] 9)).alloc (.cells #[.pointer q] 70)) :=
    (((Below.refl _ w).alloc (Nat.le_refl _) _).alloc (by simp) _).alloc (by simp; omega) _
  have e2 : ((w.alloc (.cells #[.func (.func f) #[] caps] 198)).alloc (.cells #[.string ⟨#[]⟩] 9)).heap.size = w.heap.size + 1 + 1 := by simp
  have h2 := heap_alloc_new ((w.alloc (.cells #[.func (.func f) #[] caps] 198)).alloc (.cells #[.string ⟨#[]⟩] 9)) (.cells #[.pointer q] 70)
  rw [e2] at h2
  have HG := Lib.hid (going52_stop 150 #[.pointer (some ⟨w.heap.size, 0, none⟩), .pointer (some ⟨w.heap.size + 1, 0, none⟩)] (w.heap.size + 1 + 1) (.pointer q) e _ he (HF.out _ hb1) (cell_of_one h2))
  clear h2 e2 he
  go_enter Tryz.func137, Tryz.ntmps137
  go_wp2_with (first | (go_at_call 73; go_in) | (go_at_call 140; refine HG.out.mono ?_; rintro e w4 ⟨rfl, rfl⟩))
  go_ret
  exact ⟨rfl, hb1⟩
end Go.Proofs.YtnhljfhpfpfniaaGreat

namespace Go.Proofs.YtnhljfhpfpfniaaGreat
open Go.RowKit

theorem grown_alloc (w : World) (o : Obj) (r : Option Nat) : w.grownBy (w.alloc o) r :=
  ⟨rfl, rfl, rfl, by simp, fun k hk _ => Below.heap_alloc w o k hk⟩
theorem grown_transN {a b c : World} {r : Option Nat} (h : a.grownBy b r) (k : b.grownBy c r) : a.grownBy c r :=
  ⟨k.os.trans h.os, k.tape.trans h.tape, k.output.trans h.output, Nat.le_trans h.size k.size, fun i hi hne => (k.block i (by have := h.size; omega) hne).trans (h.block i hi hne)⟩
theorem below_grown {w w' : World} (h : Below w.heap.size w w') (r : Option Nat) : w.grownBy w' r :=
  ⟨h.os, h.tape, h.output, h.size, fun k hk _ => h.block k hk⟩
theorem AfterX_stop (s : ByteArray) (e k er : Int) (h : e ≠ 0) : AfterX s e k er = (s, e) := by unfold AfterX; rw [if_neg h]

/-- The first, if there is no fault. -/
def orZ {α : Type} (e : Int) (a z : α) : α := if e = 0 then a else z
theorem orZ_ok {α : Type} (a z : α) : orZ 0 a z = a := rfl
theorem orZ_no {α : Type} (e : Int) (a z : α) (h : e ≠ 0) : orZ e a z = z := if_neg h

theorem numTo_zero (s : List UInt8) (may : Nat → Bool) (h : (numTo s may).2.2 ≠ 0) : (numTo s may).1 = 0 := by
  unfold numTo at h ⊢
  split
  · rfl
  · rename_i hc
    rw [if_neg hc] at h
    have := M.num_form s
    omega
theorem num_zero (s : List UInt8) (h : (M.num s).2.2 ≠ 0) : (M.num s).1 = 0 := by
  have := M.num_form s
  omega
theorem num_le (s : ByteArray) : (M.num s.data.toList).2.1 ≤ s.size := by
  have h := M.num_form s.data.toList
  have e : s.data.toList.length = s.size := (Lib.size_eq s).symm
  rw [e] at h
  omega
theorem takeR_zero (s : ByteArray) (n : Int) (h : (takeR s n).2 ≠ 0) : (takeR s n).1 = ⟨#[]⟩ := by
  unfold takeR at h ⊢
  split
  · rfl
  · split
    · rfl
    · rename_i h1 h2
      rw [if_neg h1, if_neg h2] at h; exact absurd rfl h
theorem rowR_zero (s : ByteArray) (n : Int) (h : (rowR s n).2.2 ≠ 0) : (rowR s n).1 = ⟨#[]⟩ := by
  unfold rowR at h ⊢
  split
  · rename_i h1
    rw [if_pos h1] at h
    exact takeR_zero _ _ h
  · rfl
theorem rowR_k (s : ByteArray) (n : Int) : 0 ≤ (rowR s n).2.1 ∧ (rowR s n).2.1 ≤ s.size := by
  unfold rowR
  have h1 := numTo_le s (rowMay n)
  split
  · have h2 := takeR_size (s.extract (numTo s.data.toList (rowMay n)).2.1 s.size) (numTo s.data.toList (rowMay n)).1
    have h3 : (s.extract (numTo s.data.toList (rowMay n)).2.1 s.size).size = s.size - (numTo s.data.toList (rowMay n)).2.1 := by simp [ByteArray.size_extract]
    simp only
    omega
  · simp only; omega


set_option maxRecDepth 100000 in
theorem num19 (p : Nat) (s : ByteArray) (e : Int) (most : Int) (w : World) (hs : s.size ≤ 1000000) (hX : RdX w p s e) :
    Calls Tryz.prog 23 #[.pointer (some ⟨p, 0, none⟩), .int .u64 most] w fun x w' => x = .returned (.int .u64 (orZ e ((numTo s.data.toList (fun n => decide ((n : Int) ≤ most))).1 : Int) 0)) ∧ RdX w' p (AfterX s e ((numTo s.data.toList (fun n => decide ((n : Int) ≤ most))).2.1 : Int) (numTo s.data.toList (fun n => decide ((n : Int) ≤ most))).2.2).1 (AfterX s e ((numTo s.data.toList (fun n => decide ((n : Int) ≤ most))).2.1 : Int) (numTo s.data.toList (fun n => decide ((n : Int) ≤ most))).2.2).2 ∧ w.grownBy w' (some p) := by
  have hp := hX.lt
  have h0 := heap_alloc_new w (.cells #[.int .u64 most] 50)
  have hb0 : Below w.heap.size w (w.alloc (.cells #[.int .u64 most] 50)) := (Below.refl _ w).alloc (Nat.le_refl _) _
  have hX1 := hX.below hb0 hp
  have e1 : (w.alloc (.cells #[.int .u64 most] 50)).heap.size = w.heap.size + 1 := by simp
  by_cases he : e = 0
  · subst he
    obtain ⟨v, hv⟩ : ∃ v, v = ((numTo s.data.toList (fun n => decide ((n : Int) ≤ most))).1 : Int) := ⟨_, rfl⟩
    obtain ⟨k, hk⟩ : ∃ k : Nat, (k : Int) = ((numTo s.data.toList (fun n => decide ((n : Int) ≤ most))).2.1 : Int) := ⟨(((numTo s.data.toList (fun n => decide ((n : Int) ≤ most))).2.1 : Int)).toNat, by have := numTo_le s (fun n => decide ((n : Int) ≤ most)); omega⟩
    obtain ⟨er, her⟩ : ∃ er, er = (numTo s.data.toList (fun n => decide ((n : Int) ≤ most))).2.2 := ⟨_, rfl⟩
    have hle : k ≤ s.size := by have := numTo_le s (fun n => decide ((n : Int) ≤ most)); omega
    have HA := Lib.hid (answer33 (.pointer (some ⟨w.heap.size, 0, none⟩)) p s v k er _ hX1 hle
      (fun W hW => (look34 s w.heap.size most W (by unfold maxLen; omega) (by rw [World.cell?_of_block (w := w.alloc (.cells #[.int .u64 most] 50)) (hW.block w.heap.size (by rw [e1]; omega))]; exact cell_of_one h0)).mono fun x w' hx => by
        rw [hv, hk, her]; obtain ⟨rfl, rfl⟩ := hx; exact ⟨rfl, Below.refl _ _⟩))
    have HZ : Hid (pickV er (.int .u64 v) (.int .u64 0) = .int .u64 (orZ 0 ((numTo s.data.toList (fun n => decide ((n : Int) ≤ most))).1 : Int) 0)) := by
      show pickV er _ _ = _
      rw [orZ_ok, ← hv]
      by_cases h : er = 0
      · exact if_pos h
      · have hz : v = 0 := by rw [hv]; rw [numTo_zero _ _ (by rw [← her]; exact h)]; rfl
        rw [hz]; exact if_neg h
    rw [← hk, ← her]
    clear hv hk her hX1 h0 e1
    have HX := Lib.hid hX; clear hX
    go_enter Tryz.func23, Tryz.ntmps23
    go_wp2_with (go_at_call 67; refine HA.out.mono ?_; rintro e w4 ⟨rfl, hr, hg⟩; have HR := Lib.hid hr; clear hr)
    go_ret
    exact ⟨by rw [← HZ.out]; rfl, HR.out, grown_transN (below_grown hb0 _) hg⟩
  · have hz : orZ e ((numTo s.data.toList (fun n => decide ((n : Int) ≤ most))).1 : Int) 0 = 0 := orZ_no _ _ _ he
    have ha : AfterX s e ((numTo s.data.toList (fun n => decide ((n : Int) ≤ most))).2.1 : Int) (numTo s.data.toList (fun n => decide ((n : Int) ≤ most))).2.2 = (s, e) := AfterX_stop _ _ _ _ he
    rw [hz, ha]
    have HA := Lib.hid (stop33 68 #[.pointer (some ⟨w.heap.size, 0, none⟩)] (some ⟨p, 0, none⟩) e _ he
      (fun W hW => fault22 p s e W (hX1.below hW (by rw [e1]; omega))))
    have HX := Lib.hid hX1; clear hX1 hX hz ha he h0 e1
    go_enter Tryz.func23, Tryz.ntmps23
    go_wp2_with (go_at_call 67; refine HA.out.mono ?_; rintro e w4 ⟨rfl, hb⟩)
    go_ret
    exact ⟨rfl, HX.out.below hb (by simp; omega), grown_transN (below_grown hb0 _) (below_grown hb _)⟩

set_option maxRecDepth 100000 in
theorem num19_nil (most : Int) (w : World) :
    Calls Tryz.prog 23 #[.pointer none, .int .u64 most] w fun x w' => x = .returned (.int .u64 0) ∧ Below w.heap.size w w' := by
  have hb0 : Below w.heap.size w (w.alloc (.cells #[.int .u64 most] 50)) := (Below.refl _ w).alloc (Nat.le_refl _) _
  have HA := Lib.hid (stop33 68 #[.pointer (some ⟨w.heap.size, 0, none⟩)] none 1 (w.alloc (.cells #[.int .u64 most] 50)) (by decide)
    (fun W _ => fault22_nil W))
  go_enter Tryz.func23, Tryz.ntmps23
  go_wp2_with (go_at_call 67; refine HA.out.mono ?_; rintro e w4 ⟨rfl, hb⟩)
  go_ret
  exact ⟨rfl, hb0.trans (hb.mono (by simp))⟩

set_option maxRecDepth 100000 in
theorem int20 (p : Nat) (s : ByteArray) (e : Int) (w : World) (hs : s.size ≤ 1000000) (hX : RdX w p s e) :
    Calls Tryz.prog 148 #[.pointer (some ⟨p, 0, none⟩)] w fun x w' => x = .returned (.int .i64 (orZ e (M.zag (M.num s.data.toList).1) 0)) ∧ RdX w' p (AfterX s e (M.num s.data.toList).2.1 (M.num s.data.toList).2.2).1 (AfterX s e (M.num s.data.toList).2.1 (M.num s.data.toList).2.2).2 ∧ w.grownBy w' (some p) := by
  have hp := hX.lt
  by_cases he : e = 0
  · subst he
    obtain ⟨v, hv⟩ : ∃ v, v = M.zag (M.num s.data.toList).1 := ⟨_, rfl⟩
    obtain ⟨k, hk⟩ : ∃ k : Nat, k = (M.num s.data.toList).2.1 := ⟨_, rfl⟩
    obtain ⟨er, her⟩ : ∃ er, er = (M.num s.data.toList).2.2 := ⟨_, rfl⟩
    have hle : k ≤ s.size := by rw [hk]; exact num_le s
    have HA := Lib.hid (answer37 p s v k er w hX hle
      (fun W hW => (look38 s W (by unfold maxLen; omega)).mono fun x w' hx => by
        rw [hv, hk, her]; obtain ⟨rfl, rfl⟩ := hx; exact ⟨rfl, Below.refl _ _⟩))
    have HZ : Hid (pickV er (.int .i64 v) (.int .i64 0) = .int .i64 (orZ 0 (M.zag (M.num s.data.toList).1) 0)) := by
      show pickV er _ _ = _
      rw [orZ_ok, ← hv]
      by_cases h : er = 0
      · exact if_pos h
      · have hz : v = 0 := by rw [hv, num_zero _ (by rw [← her]; exact h)]; rfl
        rw [hz]; exact if_neg h
    rw [← hk, ← her]
    clear hv hk her
    have HX := Lib.hid hX; clear hX
    go_enter Tryz.func148, Tryz.ntmps148
    go_wp2_with (go_at_call 155; refine HA.out.mono ?_; rintro e w4 ⟨rfl, hr, hg⟩; have HR := Lib.hid hr; clear hr)
    go_ret
    exact ⟨by rw [← HZ.out]; rfl, HR.out, hg⟩
  · have hz : orZ e (M.zag (M.num s.data.toList).1) 0 = 0 := orZ_no _ _ _ he
    have ha : AfterX s e (M.num s.data.toList).2.1 (M.num s.data.toList).2.2 = (s, e) := AfterX_stop _ _ _ _ he
    rw [hz, ha]
    have HA := Lib.hid (stop37 156 #[] (some ⟨p, 0, none⟩) e w he
      (fun W hW => fault22 p s e W (hX.below hW hp)))
    have HX := Lib.hid hX; clear hX hz ha he
    go_enter Tryz.func148, Tryz.ntmps148
    go_wp2_with (go_at_call 155; refine HA.out.mono ?_; rintro e w4 ⟨rfl, hb⟩)
    go_ret
    exact ⟨rfl, HX.out.below hb hp, below_grown hb _⟩
theorem int20_nil (w : World) :
    Calls Tryz.prog 148 #[.pointer none] w fun x w' => x = .returned (.int .i64 0) ∧ Below w.heap.size w w' := by
  have HA := Lib.hid (stop37 156 #[] none 1 w (by decide) (fun W _ => fault22_nil W))
  go_enter Tryz.func148, Tryz.ntmps148
  go_wp2_with (go_at_call 155; refine HA.out.mono ?_; rintro e w4 ⟨rfl, hb⟩)
  go_ret
  exact ⟨rfl, hb⟩

set_option maxRecDepth 100000 in
theorem take24 (p : Nat) (s : ByteArray) (e : Int) (n : Int) (w : World) (hs : s.size ≤ 1000000) (hX : RdX w p s e) :
    Calls Tryz.prog 72 #[.pointer (some ⟨p, 0, none⟩), .int .i64 n] w fun x w' => x = .returned (.string (orZ e (takeR s n).1 ⟨#[]⟩)) ∧ RdX w' p (AfterX s e ((takeR s n).1.size : Int) (takeR s n).2).1 (AfterX s e ((takeR s n).1.size : Int) (takeR s n).2).2 ∧ w.grownBy w' (some p) := by
  have hp := hX.lt
  have h0 := heap_alloc_new w (.cells #[.int .i64 n] 3)
  have hb0 : Below w.heap.size w (w.alloc (.cells #[.int .i64 n] 3)) := (Below.refl _ w).alloc (Nat.le_refl _) _
  have hX1 := hX.below hb0 hp
  have e1 : (w.alloc (.cells #[.int .i64 n] 3)).heap.size = w.heap.size + 1 := by simp
  by_cases he : e = 0
  · subst he
    obtain ⟨v, hv⟩ : ∃ v, v = (takeR s n).1 := ⟨_, rfl⟩
    obtain ⟨k, hk⟩ : ∃ k : Nat, (k : Int) = ((takeR s n).1.size : Int) := ⟨(((takeR s n).1.size : Int)).toNat, by have := takeR_size s n; omega⟩
    obtain ⟨er, her⟩ : ∃ er, er = (takeR s n).2 := ⟨_, rfl⟩
    have hle : k ≤ s.size := by have := takeR_size s n; omega
    have HA := Lib.hid (answer40 138 (.pointer (some ⟨w.heap.size, 0, none⟩)) p s v k er _ enters44 hX1 hle
      (fun W hW => (look44 s w.heap.size n W hs (by rw [World.cell?_of_block (w := w.alloc (.cells #[.int .i64 n] 3)) (hW.block w.heap.size (by rw [e1]; omega))]; exact cell_of_one h0)).mono fun x w' hx => by
        rw [hv, hk, her]; exact hx))
    have HZ : Hid (pickV er (.string v) (.string ⟨#[]⟩) = .string (orZ 0 (takeR s n).1 ⟨#[]⟩)) := by
      show pickV er _ _ = _
      rw [orZ_ok, ← hv]
      by_cases h : er = 0
      · exact if_pos h
      · have hz : v = ⟨#[]⟩ := by rw [hv]; exact takeR_zero _ _ (by rw [← her]; exact h)
        rw [hz]; exact if_neg h
    rw [← hk, ← her]
    clear hv hk her hX1 h0 e1
    have HX := Lib.hid hX; clear hX
    go_enter Tryz.func72, Tryz.ntmps72
    go_wp2_with (go_at_call 137; refine HA.out.mono ?_; rintro e w4 ⟨rfl, hr, hg⟩; have HR := Lib.hid hr; clear hr)
    go_ret
    exact ⟨by rw [← HZ.out]; rfl, HR.out, grown_transN (below_grown hb0 _) hg⟩
  · have hz : orZ e (takeR s n).1 ⟨#[]⟩ = ⟨#[]⟩ := orZ_no _ _ _ he
    have ha : AfterX s e ((takeR s n).1.size : Int) (takeR s n).2 = (s, e) := AfterX_stop _ _ _ _ he
    rw [hz, ha]
    have HA := Lib.hid (stop40 138 #[.pointer (some ⟨w.heap.size, 0, none⟩)] (some ⟨p, 0, none⟩) e _ he
      (fun W hW => fault22 p s e W (hX1.below hW (by rw [e1]; omega))))
    have HX := Lib.hid hX1; clear hX1 hX hz ha he h0 e1
    go_enter Tryz.func72, Tryz.ntmps72
    go_wp2_with (go_at_call 137; refine HA.out.mono ?_; rintro e w4 ⟨rfl, hb⟩)
    go_ret
    exact ⟨rfl, HX.out.below hb (by simp; omega), grown_transN (below_grown hb0 _) (below_grown hb _)⟩

set_option maxRecDepth 100000 in
theorem take24_nil (n : Int) (w : World) :
    Calls Tryz.prog 72 #[.pointer none, .int .i64 n] w fun x w' => x = .returned (.string ⟨#[]⟩) ∧ Below w.heap.size w w' := by
  have hb0 : Below w.heap.size w (w.alloc (.cells #[.int .i64 n] 3)) := (Below.refl _ w).alloc (Nat.le_refl _) _
  have HA := Lib.hid (stop40 138 #[.pointer (some ⟨w.heap.size, 0, none⟩)] none 1 (w.alloc (.cells #[.int .i64 n] 3)) (by decide)
    (fun W _ => fault22_nil W))
  go_enter Tryz.func72, Tryz.ntmps72
  go_wp2_with (go_at_call 137; refine HA.out.mono ?_; rintro e w4 ⟨rfl, hb⟩)
  go_ret
  exact ⟨rfl, hb0.trans (hb.mono (by simp))⟩
end Go.Proofs.YtnhljfhpfpfniaaGreat

namespace Go.Proofs.YtnhljfhpfpfniaaGreat
open Go.RowKit
theorem enters47 (args : Array Value) (w : World) : (callFunc 74 args).run Tryz.prog w = .ok (.enter 74 args) w := by kernel_rfl

theorem look47 (s : ByteArray) (g : Nat) (e : Int) (w : World) (hc : w.cell? ⟨g, 0, none⟩ = some (.int .i64 e)) :
    Calls Tryz.prog 74 #[.string s, .pointer (some ⟨g, 0, none⟩)] w fun x w' => x = .returned (.tuple #[.int .i64 0, .int .i64 e]) ∧ ∃ n, w' = w.drewN n := by
  go_enter Tryz.func74, Tryz.ntmps74
  go_wp2
  go_quiet (fail)
  go_wp2
  go_ret2
  exact ⟨rfl, _, rfl⟩

theorem AfterX_zero (s : ByteArray) (e : Int) : AfterX s 0 0 e = (s, e) := by
  unfold AfterX
  rw [if_pos rfl]
  split
  · rename_i h; subst h; simp
  · rfl

set_option maxRecDepth 100000 in
theorem fail30 (p : Nat) (s : ByteArray) (e f : Int) (w : World) (hX : RdX w p s e) :
    Calls Tryz.prog 26 #[.pointer (some ⟨p, 0, none⟩), .int .i64 f] w fun x w' => x = .returned (.tuple #[]) ∧ RdX w' p s (orZ e f e) ∧ w.grownBy w' (some p) := by
  have hp := hX.lt
  have h0 := heap_alloc_new w (.cells #[.int .i64 f] 30)
  have h1 := heap_alloc_new (w.alloc (.cells #[.int .i64 f] 30)) (.cells #[.pointer (some ⟨p, 0, none⟩)] 70)
  have e1 : (w.alloc (.cells #[.int .i64 f] 30)).heap.size = w.heap.size + 1 := by simp
  rw [e1] at h1
  have hb0 : Below w.heap.size w ((w.alloc (.cells #[.int .i64 f] 30)).alloc (.cells #[.pointer (some ⟨p, 0, none⟩)] 70)) := ((Below.refl _ w).alloc (Nat.le_refl _) _).alloc (by simp) _
  have hX1 := hX.below hb0 hp
  have c0 : ((w.alloc (.cells #[.int .i64 f] 30)).alloc (.cells #[.pointer (some ⟨p, 0, none⟩)] 70)).cell? ⟨w.heap.size, 0, none⟩ = some (.int .i64 f) := by
    have g0 : ((w.alloc (.cells #[.int .i64 f] 30)).alloc (.cells #[.pointer (some ⟨p, 0, none⟩)] 70)).heap[w.heap.size]? = some (.cells #[.int .i64 f] 30) := by
      rw [Below.heap_alloc _ _ _ (by rw [e1]; omega)]; exact h0
    exact cell_of_one g0
  by_cases he : e = 0
  · subst he
    have HA := Lib.hid (going52_one 74 (.pointer (some ⟨w.heap.size, 0, none⟩)) (w.heap.size + 1) p s 0 f (fun W => ∃ n, W = ((w.alloc (.cells #[.int .i64 f] 30)).alloc (.cells #[.pointer (some ⟨p, 0, none⟩)] 70)).drewN n) _ enters47 hX1 (cell_of_one h1) (by omega)
      ((look47 s w.heap.size f _ c0).mono fun x w' ⟨hx, n, hn⟩ => ⟨hx, ⟨n, hn⟩, by subst hn; exact hX1, by subst hn; exact cell_of_one h1⟩))
    clear hX1 h0 h1 e1 c0
    have HX := Lib.hid hX; clear hX
    go_enter Tryz.func26, Tryz.ntmps26
    go_wp2_with (first | (go_at_call 73; go_in) | (go_at_call 140; refine HA.out.mono ?_; rintro x w4 ⟨W, ⟨nn, hW⟩, rfl, hr, hg⟩; have HR := Lib.hid hr; have HW := Lib.hid hW; clear hr hW))
    go_end0
    have hr : RdX w4 p (AfterX s 0 0 f).1 (AfterX s 0 0 f).2 := HR.out
    have hW := HW.out
    subst hW
    rw [AfterX_zero] at hr
    refine ⟨rfl, hr, grown_transN (below_grown hb0 _) ⟨hg.os, hg.tape, hg.output, hg.size, hg.block⟩⟩
  · have hz : orZ e f e = e := orZ_no _ _ _ he
    rw [hz]
    have HA := Lib.hid (going52_stop 74 #[.pointer (some ⟨w.heap.size, 0, none⟩)] (w.heap.size + 1) (.pointer (some ⟨p, 0, none⟩)) e _ he (Lib.hid (fault22 p s e _ hX1)) (cell_of_one h1))
    have HX := Lib.hid hX1; clear hX1 hX hz he h0 h1 e1 c0
    go_enter Tryz.func26, Tryz.ntmps26
    go_wp2_with (first | (go_at_call 73; go_in) | (go_at_call 140; refine HA.out.mono ?_; rintro x w4 ⟨rfl, rfl⟩))
    go_end0
    exact ⟨rfl, HX.out, below_grown hb0 _⟩

set_option maxRecDepth 100000 in
theorem fail30_nil (f : Int) (w : World) :
    Calls Tryz.prog 26 #[.pointer none, .int .i64 f] w fun x w' => x = .returned (.tuple #[]) ∧ Below w.heap.size w w' := by
  have h1 := heap_alloc_new (w.alloc (.cells #[.int .i64 f] 30)) (.cells #[.pointer none] 70)
  have e1 : (w.alloc (.cells #[.int .i64 f] 30)).heap.size = w.heap.size + 1 := by simp
  rw [e1] at h1
  have hb0 : Below w.heap.size w ((w.alloc (.cells #[.int .i64 f] 30)).alloc (.cells #[.pointer none] 70)) := ((Below.refl _ w).alloc (Nat.le_refl _) _).alloc (by simp) _
  have HA := Lib.hid (going52_stop 74 #[.pointer (some ⟨w.heap.size, 0, none⟩)] (w.heap.size + 1) (.pointer none) 1 _ (by decide) (Lib.hid (fault22_nil _)) (cell_of_one h1))
  clear h1 e1
  go_enter Tryz.func26, Tryz.ntmps26
  go_wp2_with (first | (go_at_call 73; go_in) | (go_at_call 140; refine HA.out.mono ?_; rintro x w4 ⟨rfl, rfl⟩))
  go_end0
  exact ⟨rfl, hb0⟩
end Go.Proofs.YtnhljfhpfpfniaaGreat

namespace Go.Proofs.YtnhljfhpfpfniaaGreat
open Go.RowKit

/-- The document's reader at block q: the bytes, the place, the fault. -/
def RdY (w : World) (q : Nat) (S : ByteArray) (P : Nat) (e : Int) : Prop := w.heap[q]? = some (.cells #[.string S, .int .i64 (P : Int), .int .i64 e] 83 (0, 0))

theorem RdY.lt {w : World} {q : Nat} {S : ByteArray} {P : Nat} {e : Int} (h : RdY w q S P e) : q < w.heap.size := lt_of_blk h
theorem RdY.c0 {w : World} {q : Nat} {S : ByteArray} {P : Nat} {e : Int} (h : RdY w q S P e) : w.cell? ⟨q, 0, none⟩ = some (.string S) := by rw [cell_of_row w q 0 _ 83 (0, 0) h]; rfl
theorem RdY.c1 {w : World} {q : Nat} {S : ByteArray} {P : Nat} {e : Int} (h : RdY w q S P e) : w.cell? ⟨q, 1, none⟩ = some (.int .i64 (P : Int)) := by rw [cell_of_row w q 1 _ 83 (0, 0) h]; rfl
theorem RdY.c2 {w : World} {q : Nat} {S : ByteArray} {P : Nat} {e : Int} (h : RdY w q S P e) : w.cell? ⟨q, 2, none⟩ = some (.int .i64 e) := by rw [cell_of_row w q 2 _ 83 (0, 0) h]; rfl
theorem RdY.f {w : World} {q : Nat} {S : ByteArray} {P : Nat} {e : Int} (h : RdY w q S P e) (i : Nat) : w.frozen? ⟨q, i, none⟩ = false := free_of_blkN h i
theorem RdY.set1 {w : World} {q : Nat} {S : ByteArray} {P : Nat} {e : Int} (h : RdY w q S P e) (k : Nat) : RdY (w.setCell ⟨q, 1, none⟩ (.int .i64 (k : Int))) q S k e := set_blkN h 1 (.int .i64 (k : Int))
theorem RdY.set2 {w : World} {q : Nat} {S : ByteArray} {P : Nat} {e : Int} (h : RdY w q S P e) (t : Int) : RdY (w.setCell ⟨q, 2, none⟩ (.int .i64 t)) q S P t := set_blkN h 2 (.int .i64 t)
theorem RdY.grown {w w' : World} {q : Nat} {S : ByteArray} {P : Nat} {e : Int} {r : Option Nat} (h : RdY w q S P e) (hg : w.grownBy w' r) (hr : some q ≠ r) : RdY w' q S P e := (hg.block q h.lt hr).trans h
theorem RdY.below {w w' : World} {q B : Nat} {S : ByteArray} {P : Nat} {e : Int} (h : RdY w q S P e) (hb : Below B w w') (hB : q < B) : RdY w' q S P e := (hb.block q hB).trans h
theorem RdY.drewN {w : World} {q : Nat} {S : ByteArray} {P : Nat} {e : Int} (h : RdY w q S P e) (n : Nat) : RdY (w.drewN n) q S P e := h

theorem grown_drewN (w : World) (n : Nat) {w' : World} {r : Option Nat} (h : (w.drewN n).grownBy w' r) : w.grownBy w' r := ⟨h.os, h.tape, h.output, h.size, h.block⟩
theorem grown_drew0 (w : World) (n : Nat) (r : Option Nat) : w.grownBy (w.drewN n) r := ⟨rfl, rfl, rfl, Nat.le_refl _, fun _ _ _ => rfl⟩

theorem digits45q (s : ByteArray) (w : World) (hs : s.size ≤ maxLen) :
    Calls Tryz.prog 77 #[.string s] w fun e w' => e = .returned (.tuple #[.int .u64 (M.num s.data.toList).1, .int .i64 (M.num s.data.toList).2.1, .int .i64 (M.num s.data.toList).2.2]) ∧ w' = w :=
  (digits45 s w hs).mono fun _ _ ⟨h, h2⟩ => ⟨h, h2.symm⟩

theorem of25 (s : ByteArray) (w : World) : Calls Tryz.prog 31 #[.string s] w fun x w' => x = .returned (.pointer (some ⟨w.heap.size, 0, none⟩)) ∧ RdY w' w.heap.size s 0 0 ∧ Below w.heap.size w w' := by
  go_enter Tryz.func31, Tryz.ntmps31
  go_wp2
  go_ret
  exact ⟨rfl, heap_alloc_new w _, (Below.refl _ w).alloc (Nat.le_refl _) _⟩

/-- A look that goes well, a look that faults: what becomes of the place and the fault. -/
def AfterY (P : Nat) (e k er : Int) : Nat × Int := if e = 0 then (if er = 0 then (P + k.toNat, 0) else (P, er)) else (P, e)
theorem AfterY_stop (P : Nat) (e k er : Int) (h : e ≠ 0) : AfterY P e k er = (P, e) := if_neg h
theorem AfterY_ok (P : Nat) (k : Int) : AfterY P 0 k 0 = (P + k.toNat, 0) := rfl
theorem AfterY_no (P : Nat) (k er : Int) (h : er ≠ 0) : AfterY P 0 k er = (P, er) := by unfold AfterY; rw [if_pos rfl, if_neg h]

set_option maxRecDepth 100000 in
set_option maxHeartbeats 1000000 in
theorem num26 (q : Nat) (S : ByteArray) (P : Nat) (e : Int) (most : Int) (w : World) (hs : S.size ≤ 1000000) (hP : P ≤ S.size) (hY : RdY w q S P e) :
    Calls Tryz.prog 32 #[.pointer (some ⟨q, 0, none⟩), .int .u64 most] w fun x w' => x = .returned (.int .u64 (orZ e ((numTo (S.extract P S.size).data.toList (fun n => decide ((n : Int) ≤ most))).1 : Int) 0)) ∧
      RdY w' q S (AfterY P e (numTo (S.extract P S.size).data.toList (fun n => decide ((n : Int) ≤ most))).2.1 (numTo (S.extract P S.size).data.toList (fun n => decide ((n : Int) ≤ most))).2.2).1
        (AfterY P e (numTo (S.extract P S.size).data.toList (fun n => decide ((n : Int) ≤ most))).2.1 (numTo (S.extract P S.size).data.toList (fun n => decide ((n : Int) ≤ most))).2.2).2 ∧ w.grownBy w' (some q) := by
  have c0 := hY.c0; have c1 := hY.c1; have c2 := hY.c2
  by_cases he : e = 0
  · subst he
    rw [orZ_ok]
    have f1 := hY.f 1; have f2 := hY.f 2
    obtain ⟨r, hr⟩ : ∃ r, r = S.extract P S.size := ⟨_, rfl⟩
    have hrs : r.size ≤ maxLen := by rw [hr]; unfold maxLen; simp [ByteArray.size_extract]; omega
    have hle := num_le r
    have hrz : r.size = S.size - P := by rw [hr]; simp [ByteArray.size_extract]
    have HD := Lib.hid (fun W => digits45q r W hrs)
    obtain ⟨N, hN⟩ : ∃ N, N = M.num r.data.toList := ⟨_, rfl⟩
    have hbad : N.2.2 = 0 → decide ((N.1 : Int) ≤ most) = false → numTo r.data.toList (fun n => decide ((n : Int) ≤ most)) = (0, 0, 4) := fun a b => numTo_bad (by rw [← hN]; exact a) (by rw [← hN]; exact b)
    have hok : N.2.2 ≠ 0 ∨ decide ((N.1 : Int) ≤ most) = true → numTo r.data.toList (fun n => decide ((n : Int) ≤ most)) = N := fun a => (numTo_ok (by rw [← hN]; exact a)).trans hN.symm
    have hz := num_zero r.data.toList
    rw [← hN] at hz hle HD
    rw [hr] at HD
    by_cases he : N.2.2 = 0
    · have hb : (N.2.2 == 0) = true := by simpa using he
      have hbn : (N.2.2 != 0) = false := by simpa using he
      by_cases hm : (N.1 : Int) ≤ most
      · have HR := Lib.hid (hok (.inr (by simpa using hm)))
        rw [← hr, HR.out]
        have HS := Lib.hid (hY.drewN)
        have HE := Lib.hid he
        clear hY hN hbad hok hz hrs hr HR he
        go_enter Tryz.func32, Tryz.ntmps32
        go_wp2
        go_quiet ((go_at_call 77; exact Calls.quiet_of_same (HD.out _)))
        go_wp2
        go_ret
        exact ⟨rfl, by rw [HE.out]; exact (HS.out nq).set1 (P + N.2.1), grown_drewN w nq (grown_setN _ q 1 _)⟩
      · have hm2 : decide ((N.1 : Int) ≤ most) = false := by simpa using hm
        have HR := Lib.hid (hbad he hm2)
        rw [← hr, HR.out]
        have HS := Lib.hid (hY.drewN)
        have hm3 : most < (N.1 : Int) := by omega
        clear hY hN hbad hok hz hrs hr HR he hm hm2
        go_enter Tryz.func32, Tryz.ntmps32
        go_wp2
        go_quiet ((go_at_call 77; exact Calls.quiet_of_same (HD.out _)))
        go_wp2
        go_ret
        exact ⟨rfl, (HS.out nq).set2 4, grown_drewN w nq (grown_setN _ q 2 _)⟩
    · have hb : (N.2.2 == 0) = false := by simpa using he
      have hbn : (N.2.2 != 0) = true := by simpa using he
      have HR := Lib.hid (hok (.inl he))
      rw [← hr, HR.out, AfterY_no _ _ _ he, hz he]
      have HS := Lib.hid (hY.drewN)
      clear hY hN hbad hok hz hrs hr HR he
      go_enter Tryz.func32, Tryz.ntmps32
      go_wp2
      go_quiet ((go_at_call 77; exact Calls.quiet_of_same (HD.out _)))
      go_wp2
      go_ret
      exact ⟨rfl, (HS.out nq).set2 N.2.2, grown_drewN w nq (grown_setN _ q 2 _)⟩
  · rw [orZ_no _ _ _ he, AfterY_stop _ _ _ _ he]
    have hb : (e != 0) = true := by simpa using he
    have HY := Lib.hid hY
    clear hY he
    go_enter Tryz.func32, Tryz.ntmps32
    go_wp2
    go_ret
    exact ⟨rfl, HY.out, ⟨rfl, rfl, rfl, Nat.le_refl _, fun _ _ _ => rfl⟩⟩
end Go.Proofs.YtnhljfhpfpfniaaGreat

namespace Go.Proofs.YtnhljfhpfpfniaaGreat
open Go.RowKit

theorem numTo_all (s : List UInt8) : numTo s (fun n => decide ((n : Int) ≤ 18446744073709551615)) = M.num s :=
  numTo_ok (.inr (by have := M.num_lt s; simp; omega))

theorem int27 (q : Nat) (S : ByteArray) (P : Nat) (e : Int) (w : World) (hs : S.size ≤ 1000000) (hP : P ≤ S.size) (hY : RdY w q S P e) :
    Calls Tryz.prog 78 #[.pointer (some ⟨q, 0, none⟩)] w fun x w' => x = .returned (.int .i64 (orZ e (M.zag (M.num (S.extract P S.size).data.toList).1) 0)) ∧
      RdY w' q S (AfterY P e (M.num (S.extract P S.size).data.toList).2.1 (M.num (S.extract P S.size).data.toList).2.2).1
        (AfterY P e (M.num (S.extract P S.size).data.toList).2.1 (M.num (S.extract P S.size).data.toList).2.2).2 ∧ w.grownBy w' (some q) := by
  have HA := Lib.hid (num26 q S P e 18446744073709551615 w hs hP hY)
  rw [numTo_all] at HA
  have hlt := M.num_lt (S.extract P S.size).data.toList
  obtain ⟨N, hN⟩ : ∃ N, N = M.num (S.extract P S.size).data.toList := ⟨_, rfl⟩
  rw [← hN] at HA hlt ⊢
  obtain ⟨v, hv⟩ : ∃ v, v = orZ e (N.1 : Int) 0 := ⟨_, rfl⟩
  have hvz : M.zag v = orZ e (M.zag N.1) 0 := by
    rw [hv]
    by_cases he : e = 0
    · subst he; rfl
    · rw [orZ_no _ _ _ he, orZ_no _ _ _ he]; rfl
  have hvb : 0 ≤ v ∧ v ≤ 18446744073709551615 := by
    rw [hv]
    by_cases he : e = 0
    · subst he; rw [orZ_ok]; omega
    · rw [orZ_no _ _ _ he]; omega
  rw [← hv] at HA
  rw [← hvz]
  obtain ⟨hv1, hv2⟩ := hvb
  have HZ := Lib.hid (fun W => zag17 v W hv1 hv2)
  clear hN hv hvz hlt hY
  go_enter Tryz.func78, Tryz.ntmps78
  go_wp2_with (first
    | (go_at_call 32; refine HA.out.mono ?_; rintro x w1 ⟨rfl, hr, hg⟩; have HR := Lib.hid hr; clear hr)
    | (go_at_call 142; refine (HZ.out _).mono ?_; rintro x w2 ⟨rfl, rfl⟩))
  go_ret
  exact ⟨rfl, HR.out, hg⟩

theorem ext0 (S : ByteArray) (P n : Nat) (hP : P ≤ S.size) (h : n ≤ S.size - P) : (S.extract P S.size).extract 0 n = S.extract P (P + n) := by
  apply ByteArray.ext
  simp only [ByteArray.data_extract, Array.extract_extract]
  congr 1 <;> omega
end Go.Proofs.YtnhljfhpfpfniaaGreat
