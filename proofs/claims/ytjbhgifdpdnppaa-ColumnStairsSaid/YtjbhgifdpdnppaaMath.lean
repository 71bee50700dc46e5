/- The plain mathematics of numbers as bytes: what is written, what is read, and that one undoes the other. Nothing here speaks of the program. -/
import Derived.Below
namespace Go.Proofs.Ytjbhgifdpdnppaa.M

/-- A number's bytes: so many rounds at most. -/
def encF : Nat → Nat → List UInt8
  | 0, n => [UInt8.ofNat n]
  | f + 1, n => if n < 128 then [UInt8.ofNat n] else UInt8.ofNat (n % 128 + 128) :: encF f (n / 128)

/-- A number's bytes (below 2 to the 64: at most ten). -/
def enc (n : Nat) : List UInt8 := encF 9 n

def encB (n : Nat) : ByteArray := ⟨(enc n).toArray⟩

/-- What is read from the place k on, n being what came: the number, how many bytes, the fault. -/
def dig : List UInt8 → Nat → Nat → Nat × Nat × Int
  | [], _, _ => (0, 0, 2)
  | c :: r, k, n =>
    if (k = 9 ∧ 1 < c.toNat) ∨ (0 < k ∧ c.toNat = 0) then (0, 0, 3)
    else if c.toNat < 128 then (n + c.toNat % 128 * 128 ^ k, k + 1, 0)
    else dig r (k + 1) (n + c.toNat % 128 * 128 ^ k)

/-- The number with which a row begins. -/
def num (s : List UInt8) : Nat × Nat × Int := dig s 0 0

theorem encF_len (f n : Nat) : 0 < (encF f n).length ∧ (encF f n).length ≤ f + 1 := by
  induction f generalizing n with
  | zero => simp [encF]
  | succ f ih =>
    unfold encF
    split
    · simp
    · have := ih (n / 128); simp; omega

theorem enc_len (n : Nat) : 0 < (enc n).length ∧ (enc n).length ≤ 10 := encF_len 9 n

theorem encF_more (f g n : Nat) (h : n < 128 ^ (f + 1)) (hg : f ≤ g) : encF g n = encF f n := by
  induction f generalizing n g with
  | zero =>
    cases g with
    | zero => rfl
    | succ g => unfold encF; rw [if_pos (by simpa using h)]
  | succ f ih =>
    cases g with
    | zero => omega
    | succ g =>
      unfold encF
      split
      · rfl
      · rw [ih g (n / 128) (by rw [Nat.pow_succ] at h; omega) (by omega)]

/-- The first step of a number's bytes. -/
theorem enc_lt (n : Nat) (h : n < 128) : enc n = [UInt8.ofNat n] := by
  unfold enc encF; rw [if_pos h]
theorem enc_ge (n : Nat) (h : 128 ≤ n) (h2 : n < 18446744073709551616) : enc n = UInt8.ofNat (n % 128 + 128) :: enc (n / 128) := by
  unfold enc
  rw [encF, if_neg (by omega), encF_more 8 9 (n / 128) (by omega) (by omega)]

theorem toNat_lo (n : Nat) (h : n < 128) : (UInt8.ofNat n).toNat = n := by simp; omega
theorem toNat_hi (n : Nat) : (UInt8.ofNat (n % 128 + 128)).toNat = n % 128 + 128 := by simp; omega

theorem pow_le9 (k : Nat) (h : k ≤ 9) : 128 ^ k ≤ 9223372036854775808 :=
  Nat.le_trans (Nat.pow_le_pow_right (by omega) h) (by decide)

/-- WHAT IS WRITTEN IS READ AS IT WAS, with whatever behind it. -/
theorem dig_encF (f m : Nat) : ∀ (k n : Nat) (r : List UInt8), f + k = 9 → m * 128 ^ k < 18446744073709551616 → (0 < k → 0 < m) →
    dig (encF f m ++ r) k n = (n + m * 128 ^ k, k + (encF f m).length, 0) := by
  induction f generalizing m with
  | zero =>
    intro k n r hk hm h0
    obtain rfl : k = 9 := by omega
    have hm2 : m < 2 := by
      have : (128 : Nat) ^ 9 = 9223372036854775808 := by decide
      rw [this] at hm; omega
    have h0' := h0 (by omega)
    obtain rfl : m = 1 := by omega
    simp [encF, dig]
  | succ f ih =>
    intro k n r hk hm h0
    have hp : 0 < 128 ^ k := Nat.pow_pos (by omega)
    unfold encF
    by_cases h : m < 128
    · rw [if_pos h]
      simp only [List.cons_append, List.nil_append, dig, toNat_lo m h, List.length_singleton]
      have hz : ¬ ((k = 9 ∧ 1 < m) ∨ (0 < k ∧ m = 0)) := by
        rintro (⟨a, _⟩ | ⟨a, b⟩)
        · omega
        · have := h0 a; omega
      rw [if_neg hz, if_pos h, Nat.mod_eq_of_lt h]
    · rw [if_neg h]
      simp only [List.cons_append, dig, toNat_hi, List.length_cons]
      have hz : ¬ ((k = 9 ∧ 1 < m % 128 + 128) ∨ (0 < k ∧ m % 128 + 128 = 0)) := by
        rintro (⟨a, _⟩ | ⟨a, b⟩) <;> omega
      rw [if_neg hz, if_neg (by omega)]
      have hsplit : m * 128 ^ k = m % 128 * 128 ^ k + m / 128 * 128 ^ (k + 1) := by
        have e := Nat.div_add_mod m 128
        calc m * 128 ^ k = (128 * (m / 128) + m % 128) * 128 ^ k := by rw [e]
          _ = m % 128 * 128 ^ k + m / 128 * 128 ^ (k + 1) := by
            rw [Nat.add_mul, Nat.pow_succ, Nat.add_comm, Nat.mul_comm 128 (m / 128), Nat.mul_assoc, Nat.mul_comm 128 (128 ^ k)]
      have hmod : (m % 128 + 128) % 128 = m % 128 := by omega
      rw [hmod, ih (m / 128) (k + 1) _ r (by omega) (by omega) (by omega)]
      rw [hsplit]
      simp only [Prod.mk.injEq]
      exact ⟨by omega, by omega, trivial⟩

theorem num_enc (n : Nat) (r : List UInt8) (h : n < 18446744073709551616) : num (enc n ++ r) = (n, (enc n).length, 0) := by
  unfold num enc
  rw [dig_encF 9 n 0 0 r rfl (by simpa using h) (by omega)]
  simp

/-- The shape of what is read: no fault, and then it is at least one byte, and no more than there are; or a fault, and nothing. -/
theorem dig_form (s : List UInt8) : ∀ k n, ((dig s k n).2.2 = 0 ∧ k < (dig s k n).2.1 ∧ (dig s k n).2.1 ≤ k + s.length) ∨ ((dig s k n).1 = 0 ∧ (dig s k n).2.1 = 0 ∧ ((dig s k n).2.2 = 2 ∨ (dig s k n).2.2 = 3)) := by
  induction s with
  | nil => intro k n; right; simp [dig]
  | cons c r ih =>
    intro k n
    unfold dig
    split
    · right; simp
    · split
      · left; simp
      · rcases ih (k + 1) (n + c.toNat % 128 * 128 ^ k) with ⟨a, b, d⟩ | h
        · left; exact ⟨a, by omega, by simp; omega⟩
        · right; exact h

theorem num_form (s : List UInt8) : ((num s).2.2 = 0 ∧ 0 < (num s).2.1 ∧ (num s).2.1 ≤ s.length) ∨ ((num s).1 = 0 ∧ (num s).2.1 = 0 ∧ ((num s).2.2 = 2 ∨ (num s).2.2 = 3)) := by
  have := dig_form s 0 0
  simpa [num] using this

theorem dig_lt (s : List UInt8) : ∀ k n, k ≤ 9 → n < 128 ^ k → (dig s k n).1 < 18446744073709551616 := by
  induction s with
  | nil => intro k n _ _; simp [dig]
  | cons c r ih =>
    intro k n hk hn
    have hp := pow_le9 k hk
    have hmul : c.toNat % 128 * 128 ^ k ≤ 127 * 128 ^ k := Nat.mul_le_mul_right _ (by omega)
    unfold dig
    split
    · simp
    · rename_i hz
      split
      · show n + c.toNat % 128 * 128 ^ k < _
        by_cases h9 : k = 9
        · have : c.toNat ≤ 1 := by
            apply Nat.le_of_not_lt; intro h; exact hz (.inl ⟨h9, h⟩)
          have : c.toNat % 128 * 128 ^ k ≤ 1 * 128 ^ k := Nat.mul_le_mul_right _ (by omega)
          omega
        · have : 128 ^ (k + 1) ≤ 9223372036854775808 := pow_le9 (k + 1) (by omega)
          rw [Nat.pow_succ] at this
          omega
      · by_cases h9 : k = 9
        · exfalso; apply hz; left; exact ⟨h9, by omega⟩
        · refine ih (k + 1) _ (by omega) ?_
          rw [Nat.pow_succ]; omega

theorem num_lt (s : List UInt8) : (num s).1 < 18446744073709551616 := dig_lt s 0 0 (by omega) (by simp)

/-- NOTHING ELSE IS READ AS IT: what is read without a fault is just its number's bytes. -/
theorem dig_one (s : List UInt8) : ∀ k n, k ≤ 9 → n < 128 ^ k → (dig s k n).2.2 = 0 →
    ∃ m, (dig s k n).1 = n + m * 128 ^ k ∧ m * 128 ^ k < 18446744073709551616 ∧ (0 < k → 0 < m) ∧ encF (9 - k) m = s.take ((dig s k n).2.1 - k) := by
  induction s with
  | nil => intro k n _ _ h; simp [dig] at h
  | cons c r ih =>
    intro k n hk hn
    have hp := pow_le9 k hk
    have hpp : 0 < 128 ^ k := Nat.pow_pos (by omega)
    have hc : c.toNat < 256 := c.toNat_lt
    unfold dig
    split
    · intro h; simp at h
    · rename_i hz
      split
      · rename_i hlt
        intro _
        refine ⟨c.toNat, ?_, ?_, ?_, ?_⟩
        · show n + c.toNat % 128 * 128 ^ k = _; rw [Nat.mod_eq_of_lt hlt]
        · by_cases h9 : k = 9
          · have h1 : c.toNat ≤ 1 := by
              apply Nat.le_of_not_lt; intro h; exact hz (.inl ⟨h9, h⟩)
            have : c.toNat * 128 ^ k ≤ 1 * 128 ^ k := Nat.mul_le_mul_right _ h1
            omega
          · have h2 : 128 ^ (k + 1) ≤ 9223372036854775808 := pow_le9 (k + 1) (by omega)
            rw [Nat.pow_succ] at h2
            have : c.toNat * 128 ^ k ≤ 127 * 128 ^ k := Nat.mul_le_mul_right _ (by omega)
            omega
        · intro h0
          apply Nat.pos_of_ne_zero; intro h; exact hz (.inr ⟨h0, h⟩)
        · show _ = List.take (k + 1 - k) (c :: r)
          rw [show k + 1 - k = 1 from by omega]
          cases 9 - k with
          | zero => simp [encF]
          | succ f => simp [encF, hlt]
      · rename_i hge
        have h9 : k ≠ 9 := by intro h; exact hz (.inl ⟨h, by omega⟩)
        intro he
        obtain ⟨m, e1, e2, e3, e4⟩ := ih (k + 1) (n + c.toNat % 128 * 128 ^ k) (by omega) (by
          have hmul : c.toNat % 128 * 128 ^ k ≤ 127 * 128 ^ k := Nat.mul_le_mul_right _ (by omega)
          rw [Nat.pow_succ]; omega) he
        have hm := e3 (by omega)
        have hf := dig_form r (k + 1) (n + c.toNat % 128 * 128 ^ k)
        have hk2 : k + 1 < (dig r (k + 1) (n + c.toNat % 128 * 128 ^ k)).2.1 := by
          rcases hf with ⟨_, b, _⟩ | ⟨_, _, b⟩
          · exact b
          · rw [he] at b; omega
        have hsplit : (c.toNat % 128 + 128 * m) * 128 ^ k = c.toNat % 128 * 128 ^ k + m * 128 ^ (k + 1) := by
          rw [Nat.add_mul, Nat.pow_succ, Nat.mul_comm 128 m, Nat.mul_assoc, Nat.mul_comm 128 (128 ^ k)]
        refine ⟨c.toNat % 128 + 128 * m, ?_, ?_, ?_, ?_⟩
        · rw [e1, hsplit]; omega
        · rw [hsplit]
          -- m * 128 ^ (k + 1) is below 2 ^ 64 and a multiple of 128 ^ (k + 1), what is added is less than that
          obtain ⟨q, hq⟩ : ∃ q, 18446744073709551616 = 128 ^ (k + 1) * q := by
            have h2 : (18446744073709551616 : Nat) = 128 ^ 9 * 2 := by decide
            rw [h2]
            exact Nat.dvd_trans (Nat.pow_dvd_pow 128 (by omega)) (Nat.dvd_mul_right _ _)
          have hlt : m < q := by
            apply Nat.lt_of_mul_lt_mul_left (a := 128 ^ (k + 1))
            rw [← hq, Nat.mul_comm]; exact e2
          have h3 : 128 ^ (k + 1) * (m + 1) ≤ 18446744073709551616 := by
            rw [hq]; exact Nat.mul_le_mul_left _ hlt
          have hmul : c.toNat % 128 * 128 ^ k ≤ 127 * 128 ^ k := Nat.mul_le_mul_right _ (by omega)
          rw [Nat.mul_add, Nat.mul_comm _ m] at h3
          rw [Nat.pow_succ] at h3 ⊢
          omega
        · intro _; omega
        · obtain ⟨f, hf9⟩ : ∃ f, 9 - k = f + 1 := ⟨8 - k, by omega⟩
          rw [hf9, encF, if_neg (by omega)]
          have e5 : (c.toNat % 128 + 128 * m) / 128 = m := by omega
          have e6 : (c.toNat % 128 + 128 * m) % 128 + 128 = c.toNat := by omega
          have e7 : UInt8.ofNat c.toNat = c := by simp
          rw [e5, e6, e7, show f = 9 - (k + 1) from by omega, e4]
          rw [show (dig r (k + 1) (n + c.toNat % 128 * 128 ^ k)).2.1 - k = ((dig r (k + 1) (n + c.toNat % 128 * 128 ^ k)).2.1 - (k + 1)) + 1 from by omega]
          rfl

theorem num_one (s : List UInt8) (h : (num s).2.2 = 0) : enc (num s).1 = s.take (num s).2.1 := by
  obtain ⟨m, e1, _, _, e4⟩ := dig_one s 0 0 (by omega) (by simp) h
  have : m = (num s).1 := by unfold num; rw [e1]; simp
  unfold enc
  rw [← this]
  simpa [num] using e4

/-- A number with a sign, turned in and out. -/
def zig (m : Int) : Int := if 0 ≤ m then 2 * m else -2 * m - 1
def zag (n : Int) : Int := if n % 2 = 0 then n / 2 else -(n / 2) - 1
theorem zag_zig (m : Int) : zag (zig m) = m := by
  unfold zag zig; split <;> split <;> omega
theorem zig_zag (n : Int) (h : 0 ≤ n) : zig (zag n) = n := by
  unfold zag zig; split <;> split <;> omega
theorem zig_bd (m : Int) (h1 : -9223372036854775808 ≤ m) (h2 : m ≤ 9223372036854775807) : 0 ≤ zig m ∧ zig m ≤ 18446744073709551615 := by
  unfold zig; split <;> omega
theorem zag_bd (n : Int) (h1 : 0 ≤ n) (h2 : n ≤ 18446744073709551615) : -9223372036854775808 ≤ zag n ∧ zag n ≤ 9223372036854775807 := by
  unfold zag; split <;> omega

end Go.Proofs.Ytjbhgifdpdnppaa.M
