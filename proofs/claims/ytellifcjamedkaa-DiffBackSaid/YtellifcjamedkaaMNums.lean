/- The plain mathematics of numbers as bytes: what is written, what is read, and that one undoes the other. Nothing here speaks of the program. Contracts of the functions that turn a number with a sign in and out (the program's and the document's), and of the library's Clone: what each returns, for every argument. Contracts of Num, the program's and the document's: whatever number comes, both return the bytes that the plain mathematics names. Contracts of the small writers and of what reads the number that stands next, the program's and the document's: for every bytes, the number, how many bytes it has, and the fault, as the plain mathematics names them. Contracts of the looks of the program's Reader: what each of its closures makes of the bytes that are left. Contracts of the closures through which every call of the program's Reader goes: what becomes of the reader, for every look. Contracts of what the program's Reader answers through a look: the value if neither the reader nor the look faults, else zero. Contracts of what the program's Reader answers where it faulted before, or is nil: zero. Contracts of the calls of the program's Reader: what each answers, and what becomes of the reader. Contracts of Fail of the program's Reader, of one that is nil too. Contracts of the document's reader: of, and its Num. Contracts of the other calls of the document's reader but Row. -/
import Derived.Below
import Derived.Test.YtellifcjamedkaaRows
import Derived.WalkKit
import Derived.IntWalk
import Derived.Lib.Strings
import Derived.Lib.Walk
import Derived.Lib.BufferWrite
import Derived.Lib.UnsafeStr
import Derived.Lib.Hide
import Derived.Laws.MakeOwn
import Derived.Laws.IdiomStrings
import Derived.Deep.RegionWith
import Derived.StillTailTactics
import Derived.BigQuiet
import Derived.Deep.QuietTactic
namespace Go.Proofs.Ytellifcjamedkaa.M

/-- A number's bytes: so many rounds at most. -/
def encF : Nat → Nat → List UInt8
  | 0, n => [UInt8.ofNat n]
  | f + 1, n => if n < 128 then [UInt8.ofNat n] else UInt8.ofNat (n % 128 + 128) :: encF f (n / 128)

/-- A number's bytes (below 2 to the 64: at most ten). -/
def enc (n : Nat) : List UInt8 := encF 9 n

def encB (n : Nat) : ByteArray := ⟨(enc n).toArray⟩

/-- What is read from the place k on, n being what came: the number, how many bytes, the fault. -/
def dig : List UInt8 → Nat → Nat → Nat × Nat × Int
  | [], _, _ => (0, 0, 2)
  | c :: r, k, n =>
    if (k = 9 ∧ 1 < c.toNat) ∨ (0 < k ∧ c.toNat = 0) then (0, 0, 3)
    else if c.toNat < 128 then (n + c.toNat % 128 * 128 ^ k, k + 1, 0)
    else dig r (k + 1) (n + c.toNat % 128 * 128 ^ k)

/-- The number with which a row begins. -/
def num (s : List UInt8) : Nat × Nat × Int := dig s 0 0

theorem encF_len (f n : Nat) : 0 < (encF f n).length ∧ (encF f n).length ≤ f + 1 := by
  induction f generalizing n with
  | zero => simp [encF]
  | succ f ih =>
    unfold encF
    split
    · simp
    · have := ih (n / 128); simp; omega

theorem enc_len (n : Nat) : 0 < (enc n).length ∧ (enc n).length ≤ 10 := encF_len 9 n

theorem encF_more (f g n : Nat) (h : n < 128 ^ (f + 1)) (hg : f ≤ g) : encF g n = encF f n := by
  induction f generalizing n g with
  | zero =>
    cases g with
    | zero => rfl
    | succ g => unfold encF; rw [if_pos (by simpa using h)]
  | succ f ih =>
    cases g with
    | zero => omega
    | succ g =>
      unfold encF
      split
      · rfl
      · rw [ih g (n / 128) (by rw [Nat.pow_succ] at h; omega) (by omega)]

/-- The first step of a number's bytes. -/
theorem enc_lt (n : Nat) (h : n < 128) : enc n = [UInt8.ofNat n] := by
  unfold enc encF; rw [if_pos h]
theorem enc_ge (n : Nat) (h : 128 ≤ n) (h2 : n < 18446744073709551616) : enc n = UInt8.ofNat (n % 128 + 128) :: enc (n / 128) := by
  unfold enc
  rw [encF, if_neg (by omega), encF_more 8 9 (n / 128) (by omega) (by omega)]

theorem toNat_lo (n : Nat) (h : n < 128) : (UInt8.ofNat n).toNat = n := by simp; omega
theorem toNat_hi (n : Nat) : (UInt8.ofNat (n % 128 + 128)).toNat = n % 128 + 128 := by simp; omega

theorem pow_le9 (k : Nat) (h : k ≤ 9) : 128 ^ k ≤ 9223372036854775808 :=
  Nat.le_trans (Nat.pow_le_pow_right (by omega) h) (by decide)

/-- WHAT IS WRITTEN IS READ AS IT WAS, with whatever behind it. -/
theorem dig_encF (f m : Nat) : ∀ (k n : Nat) (r : List UInt8), f + k = 9 → m * 128 ^ k < 18446744073709551616 → (0 < k → 0 < m) →
    dig (encF f m ++ r) k n = (n + m * 128 ^ k, k + (encF f m).length, 0) := by
  induction f generalizing m with
  | zero =>
    intro k n r hk hm h0
    obtain rfl : k = 9 := by omega
    have hm2 : m < 2 := by
      have : (128 : Nat) ^ 9 = 9223372036854775808 := by decide
      rw [this] at hm; omega
    have h0' := h0 (by omega)
    obtain rfl : m = 1 := by omega
    simp [encF, dig]
  | succ f ih =>
    intro k n r hk hm h0
    have hp : 0 < 128 ^ k := Nat.pow_pos (by omega)
    unfold encF
    by_cases h : m < 128
    · rw [if_pos h]
      simp only [List.cons_append, List.nil_append, dig, toNat_lo m h, List.length_singleton]
      have hz : ¬ ((k = 9 ∧ 1 < m) ∨ (0 < k ∧ m = 0)) := by
        rintro (⟨a, _⟩ | ⟨a, b⟩)
        · omega
        · have := h0 a; omega
      rw [if_neg hz, if_pos h, Nat.mod_eq_of_lt h]
    · rw [if_neg h]
      simp only [List.cons_append, dig, toNat_hi, List.length_cons]
      have hz : ¬ ((k = 9 ∧ 1 < m % 128 + 128) ∨ (0 < k ∧ m % 128 + 128 = 0)) := by
        rintro (⟨a, _⟩ | ⟨a, b⟩) <;> omega
      rw [if_neg hz, if_neg (by omega)]
      have hsplit : m * 128 ^ k = m % 128 * 128 ^ k + m / 128 * 128 ^ (k + 1) := by
        have e := Nat.div_add_mod m 128
        calc m * 128 ^ k = (128 * (m / 128) + m % 128) * 128 ^ k := by rw [e]
          _ = m % 128 * 128 ^ k + m / 128 * 128 ^ (k + 1) := by
            rw [Nat.add_mul, Nat.pow_succ, Nat.add_comm, Nat.mul_comm 128 (m / 128), Nat.mul_assoc, Nat.mul_comm 128 (128 ^ k)]
      have hmod : (m % 128 + 128) % 128 = m % 128 := by omega
      rw [hmod, ih (m / 128) (k + 1) _ r (by omega) (by omega) (by omega)]
      rw [hsplit]
      simp only [Prod.mk.injEq]
      exact ⟨by omega, by omega, trivial⟩

theorem num_enc (n : Nat) (r : List UInt8) (h : n < 18446744073709551616) : num (enc n ++ r) = (n, (enc n).length, 0) := by
  unfold num enc
  rw [dig_encF 9 n 0 0 r rfl (by simpa using h) (by omega)]
  simp

/-- The shape of what is read: no fault, and then it is at least one byte, and no more than there are; or a fault, and nothing. -/
theorem dig_form (s : List UInt8) : ∀ k n, ((dig s k n).2.2 = 0 ∧ k < (dig s k n).2.1 ∧ (dig s k n).2.1 ≤ k + s.length) ∨ ((dig s k n).1 = 0 ∧ (dig s k n).2.1 = 0 ∧ ((dig s k n).2.2 = 2 ∨ (dig s k n).2.2 = 3)) := by
  induction s with
  | nil => intro k n; right; simp [dig]
  | cons c r ih =>
    intro k n
    unfold dig
    split
    · right; simp
    · split
      · left; simp
      · rcases ih (k + 1) (n + c.toNat % 128 * 128 ^ k) with ⟨a, b, d⟩ | h
        · left; exact ⟨a, by omega, by simp; omega⟩
        · right; exact h

theorem num_form (s : List UInt8) : ((num s).2.2 = 0 ∧ 0 < (num s).2.1 ∧ (num s).2.1 ≤ s.length) ∨ ((num s).1 = 0 ∧ (num s).2.1 = 0 ∧ ((num s).2.2 = 2 ∨ (num s).2.2 = 3)) := by
  have := dig_form s 0 0
  simpa [num] using this

theorem dig_lt (s : List UInt8) : ∀ k n, k ≤ 9 → n < 128 ^ k → (dig s k n).1 < 18446744073709551616 := by
  induction s with
  | nil => intro k n _ _; simp [dig]
  | cons c r ih =>
    intro k n hk hn
    have hp := pow_le9 k hk
    have hmul : c.toNat % 128 * 128 ^ k ≤ 127 * 128 ^ k := Nat.mul_le_mul_right _ (by omega)
    unfold dig
    split
    · simp
    · rename_i hz
      split
      · show n + c.toNat % 128 * 128 ^ k < _
        by_cases h9 : k = 9
        · have : c.toNat ≤ 1 := by
            apply Nat.le_of_not_lt; intro h; exact hz (.inl ⟨h9, h⟩)
          have : c.toNat % 128 * 128 ^ k ≤ 1 * 128 ^ k := Nat.mul_le_mul_right _ (by omega)
          omega
        · have : 128 ^ (k + 1) ≤ 9223372036854775808 := pow_le9 (k + 1) (by omega)
          rw [Nat.pow_succ] at this
          omega
      · by_cases h9 : k = 9
        · exfalso; apply hz; left; exact ⟨h9, by omega⟩
        · refine ih (k + 1) _ (by omega) ?_
          rw [Nat.pow_succ]; omega

theorem num_lt (s : List UInt8) : (num s).1 < 18446744073709551616 := dig_lt s 0 0 (by omega) (by simp)

/-- NOTHING ELSE IS READ AS IT: what is read without a fault is just its number's bytes. -/
theorem dig_one (s : List UInt8) : ∀ k n, k ≤ 9 → n < 128 ^ k → (dig s k n).2.2 = 0 →
    ∃ m, (dig s k n).1 = n + m * 128 ^ k ∧ m * 128 ^ k < 18446744073709551616 ∧ (0 < k → 0 < m) ∧ encF (9 - k) m = s.take ((dig s k n).2.1 - k) := by
  induction s with
  | nil => intro k n _ _ h; simp [dig] at h
  | cons c r ih =>
    intro k n hk hn
    have hp := pow_le9 k hk
    have hpp : 0 < 128 ^ k := Nat.pow_pos (by omega)
    have hc : c.toNat < 256 := c.toNat_lt
    unfold dig
    split
    · intro h; simp at h
    · rename_i hz
      split
      · rename_i hlt
        intro _
        refine ⟨c.toNat, ?_, ?_, ?_, ?_⟩
        · show n + c.toNat % 128 * 128 ^ k = _; rw [Nat.mod_eq_of_lt hlt]
        · by_cases h9 : k = 9
          · have h1 : c.toNat ≤ 1 := by
              apply Nat.le_of_not_lt; intro h; exact hz (.inl ⟨h9, h⟩)
            have : c.toNat * 128 ^ k ≤ 1 * 128 ^ k := Nat.mul_le_mul_right _ h1
            omega
          · have h2 : 128 ^ (k + 1) ≤ 9223372036854775808 := pow_le9 (k + 1) (by omega)
            rw [Nat.pow_succ] at h2
            have : c.toNat * 128 ^ k ≤ 127 * 128 ^ k := Nat.mul_le_mul_right _ (by omega)
            omega
        · intro h0
          apply Nat.pos_of_ne_zero; intro h; exact hz (.inr ⟨h0, h⟩)
        · show _ = List.take (k + 1 - k) (c :: r)
          rw [show k + 1 - k = 1 from by omega]
          cases 9 - k with
          | zero => simp [encF]
          | succ f => simp [encF, hlt]
      · rename_i hge
        have h9 : k ≠ 9 := by intro h; exact hz (.inl ⟨h, by omega⟩)
        intro he
        obtain ⟨m, e1, e2, e3, e4⟩ := ih (k + 1) (n + c.toNat % 128 * 128 ^ k) (by omega) (by
          have hmul : c.toNat % 128 * 128 ^ k ≤ 127 * 128 ^ k := Nat.mul_le_mul_right _ (by omega)
          rw [Nat.pow_succ]; omega) he
        have hm := e3 (by omega)
        have hf := dig_form r (k + 1) (n + c.toNat % 128 * 128 ^ k)
        have hk2 : k + 1 < (dig r (k + 1) (n + c.toNat % 128 * 128 ^ k)).2.1 := by
          rcases hf with ⟨_, b, _⟩ | ⟨_, _, b⟩
          · exact b
          · rw [he] at b; omega
        have hsplit : (c.toNat % 128 + 128 * m) * 128 ^ k = c.toNat % 128 * 128 ^ k + m * 128 ^ (k + 1) := by
          rw [Nat.add_mul, Nat.pow_succ, Nat.mul_comm 128 m, Nat.mul_assoc, Nat.mul_comm 128 (128 ^ k)]
        refine ⟨c.toNat % 128 + 128 * m, ?_, ?_, ?_, ?_⟩
        · rw [e1, hsplit]; omega
        · rw [hsplit]
          -- m * 128 ^ (k + 1) is below 2 ^ 64 and a multiple of 128 ^ (k + 1), what is added is less than that
          obtain ⟨q, hq⟩ : ∃ q, 18446744073709551616 = 128 ^ (k + 1) * q := by
            have h2 : (18446744073709551616 : Nat) = 128 ^ 9 * 2 := by decide
            rw [h2]
            exact Nat.dvd_trans (Nat.pow_dvd_pow 128 (by omega)) (Nat.dvd_mul_right _ _)
          have hlt : m < q := by
            apply Nat.lt_of_mul_lt_mul_left (a := 128 ^ (k + 1))
            rw [← hq, Nat.mul_comm]; exact e2
          have h3 : 128 ^ (k + 1) * (m + 1) ≤ 18446744073709551616 := by
            rw [hq]; exact Nat.mul_le_mul_left _ hlt
          have hmul : c.toNat % 128 * 128 ^ k ≤ 127 * 128 ^ k := Nat.mul_le_mul_right _ (by omega)
          rw [Nat.mul_add, Nat.mul_comm _ m] at h3
          rw [Nat.pow_succ] at h3 ⊢
          omega
        · intro _; omega
        · obtain ⟨f, hf9⟩ : ∃ f, 9 - k = f + 1 := ⟨8 - k, by omega⟩
          rw [hf9, encF, if_neg (by omega)]
          have e5 : (c.toNat % 128 + 128 * m) / 128 = m := by omega
          have e6 : (c.toNat % 128 + 128 * m) % 128 + 128 = c.toNat := by omega
          have e7 : UInt8.ofNat c.toNat = c := by simp
          rw [e5, e6, e7, show f = 9 - (k + 1) from by omega, e4]
          rw [show (dig r (k + 1) (n + c.toNat % 128 * 128 ^ k)).2.1 - k = ((dig r (k + 1) (n + c.toNat % 128 * 128 ^ k)).2.1 - (k + 1)) + 1 from by omega]
          rfl

theorem num_one (s : List UInt8) (h : (num s).2.2 = 0) : enc (num s).1 = s.take (num s).2.1 := by
  obtain ⟨m, e1, _, _, e4⟩ := dig_one s 0 0 (by omega) (by simp) h
  have : m = (num s).1 := by unfold num; rw [e1]; simp
  unfold enc
  rw [← this]
  simpa [num] using e4

/-- A number with a sign, turned in and out. -/
def zig (m : Int) : Int := if 0 ≤ m then 2 * m else -2 * m - 1
def zag (n : Int) : Int := if n % 2 = 0 then n / 2 else -(n / 2) - 1
theorem zag_zig (m : Int) : zag (zig m) = m := by
  unfold zag zig; split <;> split <;> omega
theorem zig_zag (n : Int) (h : 0 ≤ n) : zig (zag n) = n := by
  unfold zag zig; split <;> split <;> omega
theorem zig_bd (m : Int) (h1 : -9223372036854775808 ≤ m) (h2 : m ≤ 9223372036854775807) : 0 ≤ zig m ∧ zig m ≤ 18446744073709551615 := by
  unfold zig; split <;> omega
theorem zag_bd (n : Int) (h1 : 0 ≤ n) (h2 : n ≤ 18446744073709551615) : -9223372036854775808 ≤ zag n ∧ zag n ≤ 9223372036854775807 := by
  unfold zag; split <;> omega

end Go.Proofs.Ytellifcjamedkaa.M

namespace Go.Proofs.Ytellifcjamedkaa
open Go.RowKit

theorem ret_intN {k : IntKind} {a b : Int} (h : a = b) : Ending.returned (.int k a) = .returned (.int k b) := by rw [h]

theorem xor_ones_u64 (a : Nat) (ha : a < 18446744073709551616) : bits .xor .u64 (a : Int) 18446744073709551615 = 18446744073709551615 - (a : Int) := by
  show IntKind.u64.wrap ((BitVec.ofInt 64 (a : Int) ^^^ BitVec.ofInt 64 18446744073709551615).toNat : Int) = _
  have e : (BitVec.ofInt 64 18446744073709551615) = BitVec.allOnes 64 := by decide
  rw [e, BitVec.xor_allOnes, BitVec.toNat_not, ofInt_u64 a ha, IntKind.wrap_u64]
  omega
theorem xor_zero_u64 (a : Nat) (ha : a < 18446744073709551616) : bits .xor .u64 (a : Int) 0 = (a : Int) := by
  have := u64_xor_nat a 0 ha (by omega)
  simpa using this
theorem xor_zero_i64 (a : Nat) (ha : a < 9223372036854775808) : bits .xor .i64 (a : Int) 0 = (a : Int) := by
  show IntKind.i64.wrap ((BitVec.ofInt 64 (a : Int) ^^^ BitVec.ofInt 64 0).toNat : Int) = _
  have e : (BitVec.ofInt 64 0) = 0#64 := by decide
  rw [e, BitVec.xor_zero, ofInt_u64 a (by omega), IntKind.wrap_i64]
  omega
theorem xor_ones_i64 (a : Nat) (ha : a < 9223372036854775808) : bits .xor .i64 (a : Int) (-1) = -1 - (a : Int) := by
  show IntKind.i64.wrap ((BitVec.ofInt 64 (a : Int) ^^^ BitVec.ofInt 64 (-1)).toNat : Int) = _
  have e : (BitVec.ofInt 64 (-1)) = BitVec.allOnes 64 := by decide
  rw [e, BitVec.xor_allOnes, BitVec.toNat_not, ofInt_u64 a (by omega), IntKind.wrap_i64]
  omega

theorem zig_bits (m : Int) (h1 : -9223372036854775808 ≤ m) (h2 : m ≤ 9223372036854775807) :
    bits BinOp.xor IntKind.u64 (IntKind.u64.wrap (IntKind.u64.wrap m * 2)) (IntKind.u64.wrap (m / 9223372036854775808)) = M.zig m := by
  simp only [IntKind.wrap_u64]
  by_cases h : 0 ≤ m
  · have e1 : m % 18446744073709551616 * 2 % 18446744073709551616 = ((m * 2).toNat : Int) := by omega
    have e2 : m / 9223372036854775808 % 18446744073709551616 = 0 := by omega
    rw [e1, e2, xor_zero_u64 _ (by omega)]
    unfold M.zig; rw [if_pos h]; omega
  · have e1 : m % 18446744073709551616 * 2 % 18446744073709551616 = ((m * 2 + 18446744073709551616).toNat : Int) := by omega
    have e2 : m / 9223372036854775808 % 18446744073709551616 = 18446744073709551615 := by omega
    rw [e1, e2, xor_ones_u64 _ (by omega)]
    unfold M.zig; rw [if_neg h]; omega

theorem zag_bits (n : Int) (h1 : 0 ≤ n) (h2 : n ≤ 18446744073709551615) :
    bits BinOp.xor IntKind.i64 (n / 2) (wrap64 (-wrap64 (bits BinOp.and IntKind.u64 n 1))) = M.zag n := by
  have e : bits BinOp.and IntKind.u64 n 1 = n % 2 := by
    rw [u64_and n 1 h1 (by omega) (by omega) (by omega)]
    show ((n.toNat &&& 1 : Nat) : Int) = _
    rw [nat_mask1]; omega
  rw [e]
  obtain ⟨a, ha⟩ : ∃ a : Nat, n / 2 = (a : Int) := ⟨(n / 2).toNat, by omega⟩
  unfold M.zag
  rcases Int.emod_two_eq n with h | h
  · rw [h, show wrap64 (-wrap64 0) = 0 from by decide +kernel, ha, xor_zero_i64 a (by omega)]; rfl
  · rw [h, show wrap64 (-wrap64 1) = -1 from by decide +kernel, ha, xor_ones_i64 a (by omega), if_neg (by omega)]; omega

/-- What is told of bytes: how large one is. -/
theorem info5N : (Try.prog.info? 5).map (fun i => (i.zero, i.size, i.bytes)) = some (some (.int .u8 0), 1, 1) := by kernel_rfl
end Go.Proofs.Ytellifcjamedkaa

namespace Go.Proofs.Ytellifcjamedkaa
open Go.RowKit

theorem ret_strN {a b : ByteArray} (h : a = b) : Ending.returned (.string a) = .returned (.string b) := by rw [h]

theorem cell_of_blkN {W : World} {g : Nat} {cs : Array Value} {t : TypeId} (h : W.heap[g]? = some (.cells cs t (0, 0))) (i : Nat) (hi : i < cs.size) : ∃ u, W.cell? ⟨g, i, none⟩ = some u := by
  refine ⟨cs[i], ?_⟩
  rw [cell_of_row W g i cs t (0, 0) h]; simp [hi]
theorem free_of_blkN {W : World} {g : Nat} {cs : Array Value} {t : TypeId} (h : W.heap[g]? = some (.cells cs t (0, 0))) (i : Nat) : W.frozen? ⟨g, i, none⟩ = false := by
  simp [World.frozen?, h]
theorem set_blkN {W : World} {g : Nat} {cs : Array Value} {t : TypeId} (h : W.heap[g]? = some (.cells cs t (0, 0))) (i : Nat) (u : Value) : (W.setCell ⟨g, i, none⟩ u).heap[g]? = some (.cells (cs.setIfInBounds i u) t (0, 0)) := by
  simp [World.setCell, Array.getElem?_modify, h]
theorem lt_of_blk {W : World} {g : Nat} {o : Obj} (h : W.heap[g]? = some o) : g < W.heap.size := by
  rcases Nat.lt_or_ge g W.heap.size with hlt | hge
  · exact hlt
  · rw [Array.getElem?_eq_none hge] at h; cases h

/-- Bytes that stand in a block's first cells, and one more behind them. -/
theorem take_set (cs : Array Value) (k : Nat) (pre : List UInt8) (b : UInt8) (hk : k < cs.size) (_hp : pre.length = k) (h : cs.toList.take k = Lib.byteCells pre) :
    (cs.setIfInBounds k (.int .u8 (b.toNat : Int))).toList.take (k + 1) = Lib.byteCells (pre ++ [b]) := by
  rw [Array.toList_setIfInBounds, List.take_add_one, List.take_set_of_le (by omega), h, Lib.byteCells_append]
  simp [hk, Lib.byteCells]

theorem or128 (m : Int) (h1 : 0 ≤ m) : bits BinOp.or IntKind.u8 (IntKind.u8.wrap m) 128 = ((UInt8.ofNat (m.toNat % 128 + 128)).toNat : Int) := by
  obtain ⟨a, rfl⟩ := Int.eq_ofNat_of_zero_le h1
  rw [M.toNat_hi, IntKind.wrap_u8]
  rw [u8_or _ _ (by omega) (by omega) (by omega) (by omega)]
  have e1 : ((a : Int) % 256).toNat = a % 256 := by omega
  have e2 : (128 : Int).toNat = 128 := rfl
  rw [e1, e2, Int.toNat_natCast]
  have : a % 256 ||| 128 = a % 128 + 128 := by
    by_cases h : a % 256 < 128
    · have := nat_join 7 128 (a % 256) (by decide) (by simpa using h)
      rw [Nat.or_comm, this]; omega
    · have e : a % 256 = 128 ||| (a % 128) := by
        rw [nat_join 7 128 (a % 128) (by decide) (by simpa using Nat.mod_lt a (by omega : 0 < 128))]; omega
      rw [e, Nat.or_comm, ← Nat.or_assoc, Nat.or_self, ← e]; omega
  rw [this]

theorem cat_str (b : UInt8) (l : List UInt8) : (⟨#[b]⟩ : ByteArray) ++ ⟨l.toArray⟩ = ⟨(b :: l).toArray⟩ := by
  apply ByteArray.ext; simp
end Go.Proofs.Ytellifcjamedkaa

namespace Go.Proofs.Ytellifcjamedkaa
open Go.RowKit
def rowB (s : ByteArray) : ByteArray := M.encB s.size ++ s

theorem encB_size (n : Nat) : (M.encB n).size ≤ 10 := by
  have := (M.enc_len n).2
  simpa [M.encB, ByteArray.size] using this

/-- One step of what is read. -/
theorem dig_at (s : ByteArray) (k m : Nat) (h : k < s.size) : M.dig (s.data.toList.drop k) k m =
    if (k = 9 ∧ 1 < s[k].toNat) ∨ (0 < k ∧ s[k].toNat = 0) then (0, 0, 3)
    else if s[k].toNat < 128 then (m + s[k].toNat % 128 * 128 ^ k, k + 1, 0)
    else M.dig (s.data.toList.drop (k + 1)) (k + 1) (m + s[k].toNat % 128 * 128 ^ k) := by
  have h' : k < s.data.toList.length := by simpa using h
  rw [List.drop_eq_getElem_cons h']
  rfl

theorem num_end (s : ByteArray) (k m : Nat) (h : s.size ≤ k) (hd : M.dig (s.data.toList.drop k) k m = M.num s.data.toList) : M.num s.data.toList = (0, 0, 2) := by
  rw [← hd, List.drop_of_length_le (by simpa using h)]; rfl
theorem num_bad (s : ByteArray) (k m : Nat) (h : k < s.size) (hd : M.dig (s.data.toList.drop k) k m = M.num s.data.toList) (hb : (k = 9 ∧ 1 < s[k].toNat) ∨ (0 < k ∧ s[k].toNat = 0)) : M.num s.data.toList = (0, 0, 3) := by
  rw [← hd, dig_at s k m h, if_pos hb]
theorem num_last (s : ByteArray) (k m : Nat) (h : k < s.size) (hd : M.dig (s.data.toList.drop k) k m = M.num s.data.toList) (hb : ¬ ((k = 9 ∧ 1 < s[k].toNat) ∨ (0 < k ∧ s[k].toNat = 0))) (hc : s[k].toNat < 128) :
    M.num s.data.toList = (m + s[k].toNat % 128 * 128 ^ k, k + 1, 0) := by
  rw [← hd, dig_at s k m h, if_neg hb, if_pos hc]
theorem num_next (s : ByteArray) (k m : Nat) (h : k < s.size) (hd : M.dig (s.data.toList.drop k) k m = M.num s.data.toList) (hb : ¬ ((k = 9 ∧ 1 < s[k].toNat) ∨ (0 < k ∧ s[k].toNat = 0))) (hc : ¬ s[k].toNat < 128) :
    M.dig (s.data.toList.drop (k + 1)) (k + 1) (m + s[k].toNat % 128 * 128 ^ k) = M.num s.data.toList := by
  rw [← hd, dig_at s k m h, if_neg hb, if_neg hc]

theorem ret_num {p : Nat × Nat × Int} {x y z : Int} {a b : Nat} {c : Int} (h : p = (a, b, c)) (hx : x = a) (hy : y = b) (hz : z = c) :
    Ending.returned (.tuple #[.int .u64 x, .int .i64 y, .int .i64 z]) = .returned (.tuple #[.int .u64 p.1, .int .i64 p.2.1, .int .i64 p.2.2]) := by
  subst h hx hy hz; rfl

/-- What one digit more makes of a number, in the machine's words. -/
theorem or_digit (k m c : Nat) (hk : k ≤ 9) (hm : m < 128 ^ k) (hc : k = 9 → c ≤ 1) (hcb : c < 256) :
    bits BinOp.or IntKind.u64 (m : Int) (IntKind.u64.wrap (IntKind.u64.wrap (bits BinOp.and IntKind.u8 (c : Int) 127) * 2 ^ (7 * k))) = ((m + c % 128 * 128 ^ k : Nat) : Int) := by
  have e1 : bits BinOp.and IntKind.u8 (c : Int) 127 = ((c % 128 : Nat) : Int) := by
    have := u8_and_nat c 127 hcb (by omega)
    rw [nat_mask7] at this
    exact this
  have hp := M.pow_le9 k hk
  have e2 : (2 : Nat) ^ (7 * k) = 128 ^ k := by rw [Nat.pow_mul]
  have hmul : c % 128 * 128 ^ k < 18446744073709551616 := by
    by_cases h9 : k = 9
    · have h1 := hc h9
      have : c % 128 * 128 ^ k ≤ 1 * 128 ^ k := Nat.mul_le_mul_right _ (by omega)
      omega
    · have h2 : 128 ^ (k + 1) ≤ 9223372036854775808 := M.pow_le9 (k + 1) (by omega)
      rw [Nat.pow_succ] at h2
      have : c % 128 * 128 ^ k ≤ 127 * 128 ^ k := Nat.mul_le_mul_right _ (by omega)
      omega
  have e3 : IntKind.u64.wrap (IntKind.u64.wrap ((c % 128 : Nat) : Int) * 2 ^ (7 * k)) = ((c % 128 * 128 ^ k : Nat) : Int) := by
    have e4 : IntKind.u64.wrap ((c % 128 : Nat) : Int) = ((c % 128 : Nat) : Int) := by rw [IntKind.wrap_u64]; omega
    have e5 : (2 : Int) ^ (7 * k) = ((128 ^ k : Nat) : Int) := by rw [← e2]; simp
    rw [e4, e5, ← Int.natCast_mul, IntKind.wrap_u64]
    omega
  rw [e1, e3, u64_or_nat m _ (by omega) hmul, Nat.or_comm, nat_join (7 * k) _ m (by rw [e2]; exact Nat.mul_mod_left _ _) (by rw [e2]; exact hm), Nat.add_comm]

theorem more_lt (k m c : Nat) (hm : m < 128 ^ k) : m + c % 128 * 128 ^ k < 128 ^ (k + 1) := by
  have : c % 128 * 128 ^ k ≤ 127 * 128 ^ k := Nat.mul_le_mul_right _ (by omega)
  rw [Nat.pow_succ]; omega

/-- What one digit more makes of a number, by a product. -/
theorem mul_digit (k m p c : Nat) (hk : k ≤ 9) (hm : m < 128 ^ k) (hp : p = 128 ^ k) (hc : k = 9 → c ≤ 1) (_hcb : c < 256) :
    IntKind.u64.wrap ((m : Int) + IntKind.u64.wrap (((c : Int) % 128) * (p : Int))) = ((m + c % 128 * 128 ^ k : Nat) : Int) := by
  have hpw := M.pow_le9 k hk
  have hsum : m + c % 128 * 128 ^ k < 18446744073709551616 := by
    by_cases h9 : k = 9
    · have h1 := hc h9
      have : c % 128 * 128 ^ k ≤ 1 * 128 ^ k := Nat.mul_le_mul_right _ (by omega)
      omega
    · have h2 : 128 ^ (k + 1) ≤ 9223372036854775808 := M.pow_le9 (k + 1) (by omega)
      have := more_lt k m c hm
      omega
  have e1 : ((c : Int) % 128) * (p : Int) = ((c % 128 * 128 ^ k : Nat) : Int) := by rw [hp]; simp
  rw [e1]
  simp only [IntKind.wrap_u64]
  omega
theorem mul_unit (k p : Nat) (hk : k < 9) (hp : p = 128 ^ k) : IntKind.u64.wrap ((p : Int) * 128) = ((128 ^ (k + 1) : Nat) : Int) := by
  have h2 : 128 ^ (k + 1) ≤ 9223372036854775808 := M.pow_le9 (k + 1) (by omega)
  have e : (p : Int) * 128 = ((128 ^ (k + 1) : Nat) : Int) := by rw [hp, Nat.pow_succ]; simp
  rw [e, IntKind.wrap_u64]
  omega
end Go.Proofs.Ytellifcjamedkaa

namespace Go.Proofs.Ytellifcjamedkaa
open Go.RowKit

/-- The number that stands next, if it may be. -/
def numTo (s : List UInt8) (may : Nat → Bool) : Nat × Nat × Int := if (M.num s).2.2 = 0 ∧ may (M.num s).1 = false then (0, 0, 4) else M.num s

theorem numTo_bad {s : List UInt8} {may : Nat → Bool} (h1 : (M.num s).2.2 = 0) (h2 : may (M.num s).1 = false) : numTo s may = (0, 0, 4) := by
  unfold numTo; rw [if_pos ⟨h1, h2⟩]
theorem numTo_ok {s : List UInt8} {may : Nat → Bool} (h : (M.num s).2.2 ≠ 0 ∨ may (M.num s).1 = true) : numTo s may = M.num s := by
  unfold numTo; rw [if_neg]; rintro ⟨a, b⟩; rcases h with h | h
  · exact h a
  · rw [b] at h; cases h

/-- Three results: a number, how many bytes, a fault. -/
abbrev Tri (p : Nat × Nat × Int) : Ending := .returned (.tuple #[.int .u64 p.1, .int .i64 p.2.1, .int .i64 p.2.2])

/-- Three results of Int's look. -/
abbrev TriI (p : Nat × Nat × Int) : Ending := .returned (.tuple #[.int .i64 (M.zag p.1), .int .i64 p.2.1, .int .i64 p.2.2])

/-- What take makes of bytes and a number. -/
def takeR (s : ByteArray) (n : Int) : ByteArray × Int := if n < 0 then (⟨#[]⟩, 1) else if (s.size : Int) < n then (⟨#[]⟩, 2) else (s.extract 0 n.toNat, 0)

theorem takeR_size (s : ByteArray) (n : Int) : (takeR s n).1.size ≤ s.size := by
  unfold takeR
  split
  · exact Nat.zero_le _
  · split
    · exact Nat.zero_le _
    · simp [ByteArray.size_extract]; omega

/-- May a row be so long? -/
def rowMay (most : Int) (n : Nat) : Bool := decide (0 ≤ most) && decide ((n : Int) ≤ most)

/-- What Row's look makes of bytes. -/
def rowR (s : ByteArray) (most : Int) : ByteArray × Int × Int :=
  if (numTo s.data.toList (rowMay most)).2.2 = 0 then
    ((takeR (s.extract (numTo s.data.toList (rowMay most)).2.1 s.size) (numTo s.data.toList (rowMay most)).1).1,
      (numTo s.data.toList (rowMay most)).2.1 + ((takeR (s.extract (numTo s.data.toList (rowMay most)).2.1 s.size) (numTo s.data.toList (rowMay most)).1).1.size : Int),
      (takeR (s.extract (numTo s.data.toList (rowMay most)).2.1 s.size) (numTo s.data.toList (rowMay most)).1).2)
  else (⟨#[]⟩, 0, (numTo s.data.toList (rowMay most)).2.2)

theorem numTo_may (s : List UInt8) (may : Nat → Bool) (h : (numTo s may).2.2 = 0) : may (numTo s may).1 = true ∧ numTo s may = M.num s := by
  by_cases hc : (M.num s).2.2 = 0 ∧ may (M.num s).1 = false
  · rw [numTo_bad hc.1 hc.2] at h; simp at h
  · have e : numTo s may = M.num s := by unfold numTo; rw [if_neg hc]
    rw [e] at h ⊢
    refine ⟨?_, rfl⟩
    by_cases hm : may (M.num s).1 = true
    · exact hm
    · exact absurd ⟨h, by simpa using hm⟩ hc

theorem numTo_le (s : ByteArray) (may : Nat → Bool) : (numTo s.data.toList may).2.1 ≤ s.size := by
  unfold numTo
  split
  · exact Nat.zero_le _
  · have h := M.num_form s.data.toList
    have e : s.data.toList.length = s.size := (Lib.size_eq s).symm
    rw [e] at h
    omega
end Go.Proofs.Ytellifcjamedkaa

namespace Go.Proofs.Ytellifcjamedkaa
open Go.RowKit

/-- A look that goes well, a look that faults: what becomes of the reader. -/
def AfterX (s : ByteArray) (e k er : Int) : ByteArray × Int := if e = 0 then (if er = 0 then (s.extract k.toNat s.size, 0) else (s, er)) else (s, e)

theorem grown_setN (W : World) (p i : Nat) (v : Value) : W.grownBy (W.setCell ⟨p, i, none⟩ v) (some p) :=
  ⟨rfl, rfl, rfl, by simp [World.setCell], fun k _ hk => Below.heap_setCell W ⟨p, i, none⟩ v k (fun e => hk (by rw [e]))⟩
theorem drew_grown {W w' : World} {r : Option Nat} (h : W.drew.grownBy w' r) : W.grownBy w' r := ⟨h.os, h.tape, h.output, h.size, h.block⟩
end Go.Proofs.Ytellifcjamedkaa

namespace Go.Proofs.Ytellifcjamedkaa
open Go.RowKit

/-- The first, if there is no fault. -/
def pickV (er : Int) (a b : Value) : Value := if er = 0 then a else b
end Go.Proofs.Ytellifcjamedkaa

namespace Go.Proofs.Ytellifcjamedkaa
open Go.RowKit

end Go.Proofs.Ytellifcjamedkaa

namespace Go.Proofs.Ytellifcjamedkaa
open Go.RowKit

theorem grown_alloc (w : World) (o : Obj) (r : Option Nat) : w.grownBy (w.alloc o) r :=
  ⟨rfl, rfl, rfl, by simp, fun k hk _ => Below.heap_alloc w o k hk⟩
theorem grown_transN {a b c : World} {r : Option Nat} (h : a.grownBy b r) (k : b.grownBy c r) : a.grownBy c r :=
  ⟨k.os.trans h.os, k.tape.trans h.tape, k.output.trans h.output, Nat.le_trans h.size k.size, fun i hi hne => (k.block i (by have := h.size; omega) hne).trans (h.block i hi hne)⟩
theorem below_grown {w w' : World} (h : Below w.heap.size w w') (r : Option Nat) : w.grownBy w' r :=
  ⟨h.os, h.tape, h.output, h.size, fun k hk _ => h.block k hk⟩
theorem AfterX_stop (s : ByteArray) (e k er : Int) (h : e ≠ 0) : AfterX s e k er = (s, e) := by unfold AfterX; rw [if_neg h]

/-- The first, if there is no fault. -/
def orZ {α : Type} (e : Int) (a z : α) : α := if e = 0 then a else z
theorem orZ_ok {α : Type} (a z : α) : orZ 0 a z = a := rfl
theorem orZ_no {α : Type} (e : Int) (a z : α) (h : e ≠ 0) : orZ e a z = z := if_neg h

theorem numTo_zero (s : List UInt8) (may : Nat → Bool) (h : (numTo s may).2.2 ≠ 0) : (numTo s may).1 = 0 := by
  unfold numTo at h ⊢
  split
  · rfl
  · rename_i hc
    rw [if_neg hc] at h
    have := M.num_form s
    omega
theorem num_zero (s : List UInt8) (h : (M.num s).2.2 ≠ 0) : (M.num s).1 = 0 := by
  have := M.num_form s
  omega
theorem num_le (s : ByteArray) : (M.num s.data.toList).2.1 ≤ s.size := by
  have h := M.num_form s.data.toList
  have e : s.data.toList.length = s.size := (Lib.size_eq s).symm
  rw [e] at h
  omega
theorem takeR_zero (s : ByteArray) (n : Int) (h : (takeR s n).2 ≠ 0) : (takeR s n).1 = ⟨#[]⟩ := by
  unfold takeR at h ⊢
  split
  · rfl
  · split
    · rfl
    · rename_i h1 h2
      rw [if_neg h1, if_neg h2] at h; exact absurd rfl h
theorem rowR_zero (s : ByteArray) (n : Int) (h : (rowR s n).2.2 ≠ 0) : (rowR s n).1 = ⟨#[]⟩ := by
  unfold rowR at h ⊢
  split
  · rename_i h1
    rw [if_pos h1] at h
    exact takeR_zero _ _ h
  · rfl
theorem rowR_k (s : ByteArray) (n : Int) : 0 ≤ (rowR s n).2.1 ∧ (rowR s n).2.1 ≤ s.size := by
  unfold rowR
  have h1 := numTo_le s (rowMay n)
  split
  · have h2 := takeR_size (s.extract (numTo s.data.toList (rowMay n)).2.1 s.size) (numTo s.data.toList (rowMay n)).1
    have h3 : (s.extract (numTo s.data.toList (rowMay n)).2.1 s.size).size = s.size - (numTo s.data.toList (rowMay n)).2.1 := by simp [ByteArray.size_extract]
    simp only
    omega
  · simp only; omega

end Go.Proofs.Ytellifcjamedkaa

namespace Go.Proofs.Ytellifcjamedkaa
open Go.RowKit
theorem AfterX_zero (s : ByteArray) (e : Int) : AfterX s 0 0 e = (s, e) := by
  unfold AfterX
  rw [if_pos rfl]
  split
  · rename_i h; subst h; simp
  · rfl
end Go.Proofs.Ytellifcjamedkaa

namespace Go.Proofs.Ytellifcjamedkaa
open Go.RowKit

theorem grown_drewN (w : World) (n : Nat) {w' : World} {r : Option Nat} (h : (w.drewN n).grownBy w' r) : w.grownBy w' r := ⟨h.os, h.tape, h.output, h.size, h.block⟩
theorem grown_drew0 (w : World) (n : Nat) (r : Option Nat) : w.grownBy (w.drewN n) r := ⟨rfl, rfl, rfl, Nat.le_refl _, fun _ _ _ => rfl⟩

/-- A look that goes well, a look that faults: what becomes of the place and the fault. -/
def AfterY (P : Nat) (e k er : Int) : Nat × Int := if e = 0 then (if er = 0 then (P + k.toNat, 0) else (P, er)) else (P, e)
theorem AfterY_stop (P : Nat) (e k er : Int) (h : e ≠ 0) : AfterY P e k er = (P, e) := if_neg h
theorem AfterY_ok (P : Nat) (k : Int) : AfterY P 0 k 0 = (P + k.toNat, 0) := rfl
theorem AfterY_no (P : Nat) (k er : Int) (h : er ≠ 0) : AfterY P 0 k er = (P, er) := by unfold AfterY; rw [if_pos rfl, if_neg h]
end Go.Proofs.Ytellifcjamedkaa

namespace Go.Proofs.Ytellifcjamedkaa
open Go.RowKit

theorem numTo_all (s : List UInt8) : numTo s (fun n => decide ((n : Int) ≤ 18446744073709551615)) = M.num s :=
  numTo_ok (.inr (by have := M.num_lt s; simp; omega))

theorem ext0 (S : ByteArray) (P n : Nat) (hP : P ≤ S.size) (h : n ≤ S.size - P) : (S.extract P S.size).extract 0 n = S.extract P (P + n) := by
  apply ByteArray.ext
  simp only [ByteArray.data_extract, Array.extract_extract]
  congr 1 <;> omega
end Go.Proofs.Ytellifcjamedkaa
