/- Contracts of the small writers and of what reads the number that stands next, the program's and the document's: for every bytes, the number, how many bytes it has, and the fault, as the plain mathematics names them. -/
import Derived.Test.YtjbhgifdpdnppaaNums
namespace Go.Proofs.Ytjbhgifdpdnppaa
open Go.RowKit
def rowB (s : ByteArray) : ByteArray := M.encB s.size ++ s

theorem encB_size (n : Nat) : (M.encB n).size ≤ 10 := by
  have := (M.enc_len n).2
  simpa [M.encB, ByteArray.size] using this

theorem int10 (m : Int) (w : World) (h1 : -9223372036854775808 ≤ m) (h2 : m ≤ 9223372036854775807) :
    Calls Try.prog 17 #[.int .i64 m] w fun e w' => e = .returned (.string (M.encB (M.zig m).toNat)) ∧ Below w.heap.size w w' := by
  obtain ⟨z1, z2⟩ := M.zig_bd m h1 h2
  go_enter Try.func17, Try.ntmps17
  go_wp2_with (first
    | (go_at_call 33; refine (zig14 m _ h1 h2).mono ?_; rintro e w' ⟨rfl, rfl⟩)
    | (go_at_call 15; refine (num8 _ _ z1 z2).mono ?_; rintro e w1 ⟨rfl, hb1⟩))
  go_ret
  exact ⟨rfl, hb1⟩
theorem int11 (m : Int) (w : World) (h1 : -9223372036854775808 ≤ m) (h2 : m ≤ 9223372036854775807) :
    Calls Try.prog 20 #[.int .i64 m] w fun e w' => e = .returned (.string (M.encB (M.zig m).toNat)) ∧ Below w.heap.size w w' := by
  obtain ⟨z1, z2⟩ := M.zig_bd m h1 h2
  go_enter Try.func20, Try.ntmps20
  go_wp2_with (first
    | (go_at_call 34; refine (zig15 m _ h1 h2).mono ?_; rintro e w' ⟨rfl, rfl⟩)
    | (go_at_call 19; refine (ref9 _ _ z1 z2).mono ?_; rintro e w1 ⟨rfl, hb1⟩))
  go_ret
  exact ⟨rfl, hb1⟩
/-- One step of what is read. -/
theorem dig_at (s : ByteArray) (k m : Nat) (h : k < s.size) : M.dig (s.data.toList.drop k) k m =
    if (k = 9 ∧ 1 < s[k].toNat) ∨ (0 < k ∧ s[k].toNat = 0) then (0, 0, 3)
    else if s[k].toNat < 128 then (m + s[k].toNat % 128 * 128 ^ k, k + 1, 0)
    else M.dig (s.data.toList.drop (k + 1)) (k + 1) (m + s[k].toNat % 128 * 128 ^ k) := by
  have h' : k < s.data.toList.length := by simpa using h
  rw [List.drop_eq_getElem_cons h']
  rfl

theorem num_end (s : ByteArray) (k m : Nat) (h : s.size ≤ k) (hd : M.dig (s.data.toList.drop k) k m = M.num s.data.toList) : M.num s.data.toList = (0, 0, 2) := by
  rw [← hd, List.drop_of_length_le (by simpa using h)]; rfl
theorem num_bad (s : ByteArray) (k m : Nat) (h : k < s.size) (hd : M.dig (s.data.toList.drop k) k m = M.num s.data.toList) (hb : (k = 9 ∧ 1 < s[k].toNat) ∨ (0 < k ∧ s[k].toNat = 0)) : M.num s.data.toList = (0, 0, 3) := by
  rw [← hd, dig_at s k m h, if_pos hb]
theorem num_last (s : ByteArray) (k m : Nat) (h : k < s.size) (hd : M.dig (s.data.toList.drop k) k m = M.num s.data.toList) (hb : ¬ ((k = 9 ∧ 1 < s[k].toNat) ∨ (0 < k ∧ s[k].toNat = 0))) (hc : s[k].toNat < 128) :
    M.num s.data.toList = (m + s[k].toNat % 128 * 128 ^ k, k + 1, 0) := by
  rw [← hd, dig_at s k m h, if_neg hb, if_pos hc]
theorem num_next (s : ByteArray) (k m : Nat) (h : k < s.size) (hd : M.dig (s.data.toList.drop k) k m = M.num s.data.toList) (hb : ¬ ((k = 9 ∧ 1 < s[k].toNat) ∨ (0 < k ∧ s[k].toNat = 0))) (hc : ¬ s[k].toNat < 128) :
    M.dig (s.data.toList.drop (k + 1)) (k + 1) (m + s[k].toNat % 128 * 128 ^ k) = M.num s.data.toList := by
  rw [← hd, dig_at s k m h, if_neg hb, if_neg hc]

theorem ret_num {p : Nat × Nat × Int} {x y z : Int} {a b : Nat} {c : Int} (h : p = (a, b, c)) (hx : x = a) (hy : y = b) (hz : z = c) :
    Ending.returned (.tuple #[.int .u64 x, .int .i64 y, .int .i64 z]) = .returned (.tuple #[.int .u64 p.1, .int .i64 p.2.1, .int .i64 p.2.2]) := by
  subst h hx hy hz; rfl

/-- What one digit more makes of a number, in the machine's words. -/
theorem or_digit (k m c : Nat) (hk : k ≤ 9) (hm : m < 128 ^ k) (hc : k = 9 → c ≤ 1) (hcb : c < 256) :
    bits BinOp.or IntKind.u64 (m : Int) (IntKind.u64.wrap (IntKind.u64.wrap (bits BinOp.and IntKind.u8 (c : Int) 127) * 2 ^ (7 * k))) = ((m + c % 128 * 128 ^ k : Nat) : Int) := by
  have e1 : bits BinOp.and IntKind.u8 (c : Int) 127 = ((c % 128 : Nat) : Int) := by
    have := u8_and_nat c 127 hcb (by omega)
    rw [nat_mask7] at this
    exact this
  have hp := M.pow_le9 k hk
  have e2 : (2 : Nat) ^ (7 * k) = 128 ^ k := by rw [Nat.pow_mul]
  have hmul : c % 128 * 128 ^ k < 18446744073709551616 := by
    by_cases h9 : k = 9
    · have h1 := hc h9
      have : c % 128 * 128 ^ k ≤ 1 * 128 ^ k := Nat.mul_le_mul_right _ (by omega)
      omega
    · have h2 : 128 ^ (k + 1) ≤ 9223372036854775808 := M.pow_le9 (k + 1) (by omega)
      rw [Nat.pow_succ] at h2
      have : c % 128 * 128 ^ k ≤ 127 * 128 ^ k := Nat.mul_le_mul_right _ (by omega)
      omega
  have e3 : IntKind.u64.wrap (IntKind.u64.wrap ((c % 128 : Nat) : Int) * 2 ^ (7 * k)) = ((c % 128 * 128 ^ k : Nat) : Int) := by
    have e4 : IntKind.u64.wrap ((c % 128 : Nat) : Int) = ((c % 128 : Nat) : Int) := by rw [IntKind.wrap_u64]; omega
    have e5 : (2 : Int) ^ (7 * k) = ((128 ^ k : Nat) : Int) := by rw [← e2]; simp
    rw [e4, e5, ← Int.natCast_mul, IntKind.wrap_u64]
    omega
  rw [e1, e3, u64_or_nat m _ (by omega) hmul, Nat.or_comm, nat_join (7 * k) _ m (by rw [e2]; exact Nat.mul_mod_left _ _) (by rw [e2]; exact hm), Nat.add_comm]

theorem more_lt (k m c : Nat) (hm : m < 128 ^ k) : m + c % 128 * 128 ^ k < 128 ^ (k + 1) := by
  have : c % 128 * 128 ^ k ≤ 127 * 128 ^ k := Nat.mul_le_mul_right _ (by omega)
  rw [Nat.pow_succ]; omega

set_option maxRecDepth 100000 in
set_option maxHeartbeats 1000000 in
theorem number39 (s : ByteArray) (w : World) (hs : s.size ≤ maxLen) :
    Calls Try.prog 48 #[.string s] w fun e w' => e = .returned (.tuple #[.int .u64 (M.num s.data.toList).1, .int .i64 (M.num s.data.toList).2.1, .int .i64 (M.num s.data.toList).2.2]) ∧ w = w' := by
  unfold maxLen at hs
  go_enter Try.func48, Try.ntmps48
  go_wp2
  go_loop [5, 10] (fun n i => ∃ k m : Nat, k ≤ s.size ∧ k ≤ 9 ∧ m < 128 ^ k ∧ i = .int .i64 k ∧ n = .int .u64 m ∧ M.dig (s.data.toList.drop k) k m = M.num s.data.toList) (fun _ i => s.size - (intOf i).toNat)
  case atStart => exact ⟨0, 0, by omega, by omega, by omega, rfl, rfl, rfl⟩
  case round =>
    obtain ⟨k, m, hk, hk9, hm, rfl, rfl, hd⟩ := hrel
    by_cases hlt : k < s.size
    · have hcb : s[k].toNat < 256 := s[k].toNat_lt
      have HO := Lib.hid (or_digit k m s[k].toNat hk9 hm)
      have HM := Lib.hid hm
      by_cases hb : (k = 9 ∧ 1 < s[k].toNat) ∨ (0 < k ∧ s[k].toNat = 0)
      · have HR := Lib.hid (num_bad s k m hlt hd hb)
        clear hd hm
        rcases hb with ⟨rfl, h1⟩ | ⟨h0, h1⟩
        · go_wp2
          go_ret3
          exact ⟨ret_num HR.out rfl rfl rfl, rfl⟩
        · have h2 : ((s[k].toNat : Int) == 0) = true := by simpa using h1
          go_wp2
          go_ret3
          exact ⟨ret_num HR.out rfl rfl rfl, rfl⟩
      · by_cases hc : s[k].toNat < 128
        · have HR := Lib.hid (num_last s k m hlt hd hb hc)
          clear hd hm
          by_cases h9 : k = 9
          · subst h9
            have h1 : s[9].toNat ≤ 1 := by omega
            have h3 : ((s[9].toNat : Int) == 0) = false := by rw [beq_eq_false_iff_ne]; omega
            clear hb
            go_wp2
            go_ret3
            exact ⟨ret_num HR.out (HO.out (fun _ => h1) hcb) rfl rfl, rfl⟩
          · by_cases h0 : 0 < k
            · have h3 : ((s[k].toNat : Int) == 0) = false := by rw [beq_eq_false_iff_ne]; omega
              clear hb
              go_wp2
              go_ret3
              exact ⟨ret_num HR.out (HO.out (fun h => absurd h h9) hcb) rfl rfl, rfl⟩
            · clear hb
              go_wp2
              go_ret3
              exact ⟨ret_num HR.out (HO.out (fun h => absurd h h9) hcb) rfl rfl, rfl⟩
        · have HR := Lib.hid (num_next s k m hlt hd hb hc)
          have hk8 : k < 9 := by omega
          clear hd hm
          by_cases h0 : 0 < k
          · have h3 : ((s[k].toNat : Int) == 0) = false := by rw [beq_eq_false_iff_ne]; omega
            clear hb
            go_wp2
            go_round
            case rel => exact ⟨k + 1, _, by omega, by omega, more_lt k m s[k].toNat HM.out, by go_num, congrArg (Value.int .u64) (HO.out (fun h => by omega) hcb), HR.out⟩
            case measure => simp [intOf]; omega
          · clear hb
            go_wp2
            go_round
            case rel => exact ⟨k + 1, _, by omega, by omega, more_lt k m s[k].toNat HM.out, by go_num, congrArg (Value.int .u64) (HO.out (fun h => by omega) hcb), HR.out⟩
            case measure => simp [intOf]; omega
    · have HR := Lib.hid (num_end s k m (by omega) hd)
      clear hd hm
      go_wp2
      go_ret3
      exact ⟨ret_num HR.out rfl rfl rfl, rfl⟩

/-- What one digit more makes of a number, by a product. -/
theorem mul_digit (k m p c : Nat) (hk : k ≤ 9) (hm : m < 128 ^ k) (hp : p = 128 ^ k) (hc : k = 9 → c ≤ 1) (_hcb : c < 256) :
    IntKind.u64.wrap ((m : Int) + IntKind.u64.wrap (((c : Int) % 128) * (p : Int))) = ((m + c % 128 * 128 ^ k : Nat) : Int) := by
  have hpw := M.pow_le9 k hk
  have hsum : m + c % 128 * 128 ^ k < 18446744073709551616 := by
    by_cases h9 : k = 9
    · have h1 := hc h9
      have : c % 128 * 128 ^ k ≤ 1 * 128 ^ k := Nat.mul_le_mul_right _ (by omega)
      omega
    · have h2 : 128 ^ (k + 1) ≤ 9223372036854775808 := M.pow_le9 (k + 1) (by omega)
      have := more_lt k m c hm
      omega
  have e1 : ((c : Int) % 128) * (p : Int) = ((c % 128 * 128 ^ k : Nat) : Int) := by rw [hp]; simp
  rw [e1]
  simp only [IntKind.wrap_u64]
  omega
theorem mul_unit (k p : Nat) (hk : k < 9) (hp : p = 128 ^ k) : IntKind.u64.wrap ((p : Int) * 128) = ((128 ^ (k + 1) : Nat) : Int) := by
  have h2 : 128 ^ (k + 1) ≤ 9223372036854775808 := M.pow_le9 (k + 1) (by omega)
  have e : (p : Int) * 128 = ((128 ^ (k + 1) : Nat) : Int) := by rw [hp, Nat.pow_succ]; simp
  rw [e, IntKind.wrap_u64]
  omega

set_option maxRecDepth 100000 in
set_option maxHeartbeats 1000000 in
theorem digits45 (s : ByteArray) (w : World) (hs : s.size ≤ maxLen) :
    Calls Try.prog 43 #[.string s] w fun e w' => e = .returned (.tuple #[.int .u64 (M.num s.data.toList).1, .int .i64 (M.num s.data.toList).2.1, .int .i64 (M.num s.data.toList).2.2]) ∧ w = w' := by
  unfold maxLen at hs
  go_enter Try.func43, Try.ntmps43
  go_wp2
  go_loop [5, 6, 7] (fun n u i => ∃ k m p : Nat, k ≤ s.size ∧ k ≤ 9 ∧ m < 128 ^ k ∧ p = 128 ^ k ∧ i = .int .i64 k ∧ n = .int .u64 m ∧ u = .int .u64 p ∧ M.dig (s.data.toList.drop k) k m = M.num s.data.toList) (fun _ _ i => s.size - (intOf i).toNat)
  case atStart => exact ⟨0, 0, 1, by omega, by omega, by omega, rfl, rfl, rfl, rfl, rfl⟩
  case round =>
    obtain ⟨k, m, p, hk, hk9, hm, hp, rfl, rfl, rfl, hd⟩ := hrel
    by_cases hlt : k < s.size
    · have hcb : s[k].toNat < 256 := s[k].toNat_lt
      have HM := Lib.hid hm
      have HP := Lib.hid hp
      by_cases hb : (k = 9 ∧ 1 < s[k].toNat) ∨ (0 < k ∧ s[k].toNat = 0)
      · have HR := Lib.hid (num_bad s k m hlt hd hb)
        clear hd hm hp
        by_cases h9 : k = 9
        · subst h9
          by_cases h1 : 1 < s[9].toNat
          · clear hb
            go_wp2
            go_ret3
            exact ⟨ret_num HR.out rfl rfl rfl, rfl⟩
          · have h2 : ((s[9].toNat : Int) == 0) = true := by rw [beq_iff_eq]; omega
            clear hb
            go_wp2
            go_ret3
            exact ⟨ret_num HR.out rfl rfl rfl, rfl⟩
        · have h0 : 0 < k := by omega
          have h2 : ((s[k].toNat : Int) == 0) = true := by rw [beq_iff_eq]; omega
          clear hb
          go_wp2
          go_ret3
          exact ⟨ret_num HR.out rfl rfl rfl, rfl⟩
      · by_cases hc : s[k].toNat < 128
        · have HR := Lib.hid (num_last s k m hlt hd hb hc)
          clear hd hm hp
          by_cases h9 : k = 9
          · subst h9
            have h1 : ¬ 1 < s[9].toNat := by omega
            have h2 : ((s[9].toNat : Int) == 0) = false := by rw [beq_eq_false_iff_ne]; omega
            clear hb
            go_wp2
            go_ret3
            exact ⟨ret_num HR.out (mul_digit 9 m p _ hk9 HM.out HP.out (fun _ => by omega) hcb) rfl rfl, rfl⟩
          · by_cases h0 : 0 < k
            · have h3 : ((s[k].toNat : Int) == 0) = false := by rw [beq_eq_false_iff_ne]; omega
              clear hb
              go_wp2
              go_ret3
              exact ⟨ret_num HR.out (mul_digit k m p _ hk9 HM.out HP.out (fun h => absurd h h9) hcb) rfl rfl, rfl⟩
            · clear hb
              go_wp2
              go_ret3
              exact ⟨ret_num HR.out (mul_digit k m p _ hk9 HM.out HP.out (fun h => absurd h h9) hcb) rfl rfl, rfl⟩
        · have HR := Lib.hid (num_next s k m hlt hd hb hc)
          have hk8 : k < 9 := by omega
          clear hd hm hp
          by_cases h0 : 0 < k
          · have h3 : ((s[k].toNat : Int) == 0) = false := by rw [beq_eq_false_iff_ne]; omega
            clear hb
            go_wp2
            go_round
            case rel => exact ⟨k + 1, _, _, by omega, by omega, more_lt k m s[k].toNat HM.out, rfl, by go_num, congrArg (Value.int .u64) (mul_digit k m p _ hk9 HM.out HP.out (fun h => by omega) hcb), congrArg (Value.int .u64) (mul_unit k p hk8 HP.out), HR.out⟩
            case measure => simp [intOf]; omega
          · clear hb
            go_wp2
            go_round
            case rel => exact ⟨k + 1, _, _, by omega, by omega, more_lt k m s[k].toNat HM.out, rfl, by go_num, congrArg (Value.int .u64) (mul_digit k m p _ hk9 HM.out HP.out (fun h => by omega) hcb), congrArg (Value.int .u64) (mul_unit k p hk8 HP.out), HR.out⟩
            case measure => simp [intOf]; omega
    · have HR := Lib.hid (num_end s k m (by omega) hd)
      clear hd hm hp
      go_wp2
      go_ret3
      exact ⟨ret_num HR.out rfl rfl rfl, rfl⟩
end Go.Proofs.Ytjbhgifdpdnppaa
