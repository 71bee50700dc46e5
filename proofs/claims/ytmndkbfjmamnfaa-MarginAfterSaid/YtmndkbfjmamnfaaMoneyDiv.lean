/- Two words by a hundred: the contract of the library's Div64 at this program. -/
import Derived.Test.YtmndkbfjmamnfaaMoneyWord
import Derived.Lib.Strings
import Derived.Lib.Slices
import Derived.Lib.Small
import Derived.Lib.BitFns
namespace Go.Proofs.Ytmndkbfjmamnfaa
open Go.RowKit Base

theorem log2_bits : ∀ n : Fin 256, Lib.bitLen n.val = if n.val = 0 then 0 else Nat.log2 n.val + 1 := by decide +kernel
theorem log2_shift (x : Nat) (h : 256 ≤ x) : Nat.log2 x = Nat.log2 (x / 256) + 8 := by
  rw [Nat.log2_eq_iff (by omega)]
  have h1 := Nat.log2_self_le (n := x / 256) (by omega)
  have h2 := Nat.lt_log2_self (n := x / 256)
  rw [Nat.pow_succ] at h2
  have e1 : 2 ^ (Nat.log2 (x / 256) + 8) = 2 ^ Nat.log2 (x / 256) * 256 := by rw [Nat.pow_add]
  have e2 : 2 ^ (Nat.log2 (x / 256) + 8 + 1) = 2 ^ Nat.log2 (x / 256) * 512 := by rw [Nat.pow_succ, Nat.pow_add]; omega
  omega

theorem w64 {x : Int} (h0 : -9223372036854775808 ≤ x) (h1 : x ≤ 9223372036854775807) : wrap64 x = x := by unfold wrap64; omega
theorem len8_at (y : Int) (h0 : 0 ≤ y) (h : y < 256) (h2 : y.toNat < Lib.len8tab.size) : wrap64 ((Lib.len8tab[y.toNat]'h2).toNat : Int) = ((if y.toNat = 0 then 0 else Nat.log2 y.toNat + 1 : Nat) : Int) := by
  have e := log2_bits ⟨y.toNat, by omega⟩
  have e2 := Lib.len8_eq ⟨y.toNat, by omega⟩
  have e3 := Lib.bitLen_le8 ⟨y.toNat, by omega⟩
  simp only at e e2 e3
  rw [← e]
  have e4 : Lib.len8 (y.toNat : Int) = ((Lib.len8tab[y.toNat]'h2).toNat : Int) := by
    unfold Lib.len8
    rw [Int.toNat_natCast, getElem?_pos Lib.len8tab y.toNat h2]
    rfl
  rw [← e4, e2, w64 (by omega) (by omega)]

set_option maxHeartbeats 4000000 in
set_option maxRecDepth 100000 in
theorem len64 (x : Int) (w : World) (h0 : 1 ≤ x) (h1 : x ≤ 65535) :
    Calls Try.prog 98 #[.int .u64 x] w fun e w' => e = .returned (.int .i64 ((Nat.log2 x.toNat + 1 : Nat) : Int)) ∧ w = w' := by
  have hsz : Lib.len8tab.size = 256 := by decide
  go_enter Try.func98, Try.ntmps98
  go_wp2
  all_goals go_ret
  · refine ⟨congrArg Ending.returned (congrArg (Value.int IntKind.i64) ?_), rfl⟩
    rw [len8_at (x / 256) (by omega) (by omega) (by omega)]
    have e : (x / 256).toNat = x.toNat / 256 := by omega
    have e2 := log2_shift x.toNat (by omega)
    rw [e, if_neg (by omega), e2]
    have e3 : Nat.log2 (x.toNat / 256) < 256 := by rw [Nat.log2_lt (by omega)]; exact Nat.lt_of_lt_of_le (show x.toNat / 256 < 2 ^ 8 by omega) (Nat.pow_le_pow_right (by omega) (by omega))
    rw [w64 (by omega) (by omega)]; omega
  · refine ⟨congrArg Ending.returned (congrArg (Value.int IntKind.i64) ?_), rfl⟩
    rw [len8_at x (by omega) (by omega) (by omega), if_neg (by omega)]
    have e3 : Nat.log2 x.toNat < 256 := by rw [Nat.log2_lt (by omega)]; exact Nat.lt_of_lt_of_le (show x.toNat < 2 ^ 8 by omega) (Nat.pow_le_pow_right (by omega) (by omega))
    rw [w64 (by omega) (by omega)]

theorem lead35 (w : World) : Calls Try.prog 93 #[.int .u64 100] w fun e w' => e = .returned (.int .i64 57) ∧ w = w' := by
  have H := Lib.hid (len64 100 w (by decide) (by decide))
  have e : ((Nat.log2 (100 : Int).toNat + 1 : Nat) : Int) = 7 := by decide
  rw [e] at H
  go_enter Try.func93, Try.ntmps93
  go_wp2_with (go_at_call 98; refine H.out.mono ?_; rintro e w1 ⟨rfl, rfl⟩)
  go_ret
  exact ⟨rfl, rfl⟩
theorem or_i (x y s : Int) (hx : Wd x) (hy : Wd y) (h : (x.toNat ||| y.toNat) = s.toNat) (hs : 0 ≤ s) : bits .or .u64 x y = s := by
  obtain ⟨X, rfl⟩ := Int.eq_ofNat_of_zero_le hx.1
  obtain ⟨Y, rfl⟩ := Int.eq_ofNat_of_zero_le hy.1
  have h1 := hx.2; have h2 := hy.2
  have k := bits_or_u64_nat X Y (by omega) (by omega)
  simp only [Int.toNat_natCast] at h
  rw [k, h]; omega
/-- Words that have no bit in common. -/
theorem or_up (H L : Nat) (hL : L < 144115188075855872) : (H * 144115188075855872) ||| L = H * 144115188075855872 + L := by
  have := Nat.shiftLeft_add_eq_or_of_lt (b := L) (i := 57) hL H
  rw [Nat.shiftLeft_eq] at this
  exact this.symm

set_option maxHeartbeats 1000000 in
theorem div34 (hi lo : Int) (h0 : 0 ≤ hi ∧ hi < 100) (hl : Wd lo) (w : World) : Calls Try.prog 87 #[.int .u64 hi, .int .u64 lo, .int .u64 100] w fun e w' => e = .returned (.tuple #[.int .u64 ((hi * 18446744073709551616 + lo) / 100), .int .u64 ((hi * 18446744073709551616 + lo) % 100)]) ∧ ∃ n, w' = w.drewN n := by
  have hl' := hl
  obtain ⟨l0, l1⟩ := hl'
  by_cases hz : hi = 0
  · subst hz
    have e1 : lo.tdiv 100 = lo / 100 := Int.tdiv_eq_ediv_of_nonneg l0
    have e2 : lo.tmod 100 = lo % 100 := Int.tmod_eq_emod_of_nonneg l0
    go_enter Try.func87, Try.ntmps87
    go_upto_region 6 with (fail)
    go_quiet (fail)
    go_wp2
    go_ret2
    exact ⟨by simp, nq, rfl⟩
  · have hb : (hi == 0) = false := by simpa using hz
    have HLD := Lib.hid lead35
    obtain ⟨un10, h10⟩ : ∃ t, lo % 128 * 144115188075855872 = t := ⟨_, rfl⟩
    have h10' : IntKind.u64.wrap (lo * 144115188075855872) = un10 := by rw [← h10, IntKind.wrap_u64]; omega
    obtain ⟨hh, ehh⟩ : ∃ t, hi * 144115188075855872 = t := ⟨_, rfl⟩
    have whh : IntKind.u64.wrap hh = hh := by rw [IntKind.wrap_u64]; omega
    obtain ⟨ll, ell⟩ : ∃ t, lo / 128 = t := ⟨_, rfl⟩
    obtain ⟨un32, h32⟩ : ∃ t, hh + ll = t := ⟨_, rfl⟩
    have hor : bits .or .u64 hh ll = un32 := or_i _ _ _ (by unfold Wd; omega) (by unfold Wd; omega) (by
      have := or_up hi.toNat ll.toNat (by omega)
      rw [show hh.toNat = hi.toNat * 144115188075855872 by omega, this]; omega) (by omega)
    have hm0 : bits .and .u64 14411518807585587200 4294967295 = 0 := mask_i 14411518807585587200 (by unfold Wd; omega)
    have hm1 : bits .and .u64 un10 4294967295 = 0 := by rw [mask_i un10 (by unfold Wd; omega)]; omega
    obtain ⟨un1, h1⟩ : ∃ t, un10 / 4294967296 = t := ⟨_, rfl⟩
    obtain ⟨q1, hq1⟩ : ∃ t, un32 / 3355443200 = t := ⟨_, rfl⟩
    obtain ⟨p1, hp1⟩ : ∃ t, q1 * 3355443200 = t := ⟨_, rfl⟩
    obtain ⟨rh, hrh⟩ : ∃ t, un32 - p1 = t := ⟨_, rfl⟩
    have bq1 : 0 ≤ q1 ∧ q1 < 4294967296 := by omega
    have brh : 0 ≤ rh ∧ rh < 3355443200 := by omega
    have b1 : 0 ≤ un1 ∧ un1 < 4294967296 := by omega
    have k1 : un1 * 4294967296 = un10 := by omega
    have bu : 0 ≤ un32 ∧ un32 < 18446744073709551616 := by omega
    obtain ⟨m1, hmm1⟩ : ∃ t, 4294967296 * rh = t := ⟨_, rfl⟩
    obtain ⟨m2, hmm2⟩ : ∃ t, m1 + un1 = t := ⟨_, rfl⟩
    have bm2 : 0 ≤ m2 ∧ m2 < 18446744073709551616 := by omega
    have wm1 : IntKind.u64.wrap m1 = m1 := by rw [IntKind.wrap_u64]; omega
    have wm2 : IntKind.u64.wrap m2 = m2 := by rw [IntKind.wrap_u64]; omega
    obtain ⟨A, hA⟩ : ∃ t, IntKind.u64.wrap (un32 * 4294967296) = t := ⟨_, rfl⟩
    obtain ⟨B, hB⟩ : ∃ t, IntKind.u64.wrap (A + un1) = t := ⟨_, rfl⟩
    obtain ⟨C, hC⟩ : ∃ t, IntKind.u64.wrap (q1 * 14411518807585587200) = t := ⟨_, rfl⟩
    have h21 : IntKind.u64.wrap (B - C) = m2 := by rw [← hB, ← hA, ← hC]; simp only [IntKind.wrap_u64]; omega
    obtain ⟨q0, hq0⟩ : ∃ t, m2 / 3355443200 = t := ⟨_, rfl⟩
    obtain ⟨p0, hp0⟩ : ∃ t, q0 * 3355443200 = t := ⟨_, rfl⟩
    obtain ⟨r0, hr0⟩ : ∃ t, m2 - p0 = t := ⟨_, rfl⟩
    have bq0 : 0 ≤ q0 ∧ q0 < 4294967296 := by omega
    have br0 : 0 ≤ r0 ∧ r0 < 3355443200 := by omega
    obtain ⟨m3, hm3⟩ : ∃ t, 4294967296 * r0 = t := ⟨_, rfl⟩
    have bm3 : 0 ≤ m3 ∧ m3 < 18446744073709551616 := by omega
    have wm3 : IntKind.u64.wrap m3 = m3 := by rw [IntKind.wrap_u64]; omega
    obtain ⟨D, hD⟩ : ∃ t, IntKind.u64.wrap (m2 * 4294967296) = t := ⟨_, rfl⟩
    have wD : IntKind.u64.wrap D = D := by rw [← hD]; simp only [IntKind.wrap_u64]; omega
    obtain ⟨F, hF⟩ : ∃ t, IntKind.u64.wrap (q0 * 14411518807585587200) = t := ⟨_, rfl⟩
    have h22 : IntKind.u64.wrap (D - F) = m3 := by rw [← hD, ← hF]; simp only [IntKind.wrap_u64]; omega
    obtain ⟨Q, hQ⟩ : ∃ t, (hi * 18446744073709551616 + lo) / 100 = t := ⟨_, rfl⟩
    obtain ⟨R, hR⟩ : ∃ t, (hi * 18446744073709551616 + lo) % 100 = t := ⟨_, rfl⟩
    have hpair : q1 * 4294967296 + q0 = Q ∧ m3 / 144115188075855872 = R := by omega
    obtain ⟨E1, hE1⟩ : ∃ t, q1 * 4294967296 = t := ⟨_, rfl⟩
    have wE1 : IntKind.u64.wrap E1 = E1 := by rw [IntKind.wrap_u64]; omega
    rw [hE1] at hpair
    obtain ⟨hp, hpr⟩ := hpair
    have wQ : IntKind.u64.wrap Q = Q := by rw [IntKind.wrap_u64]; omega
    have hq1lt : q1 < 4294967296 := bq1.2
    have hq0lt : q0 < 4294967296 := bq0.2
    rw [hQ, hR]
    have n2 : ¬ m2 < 0 := by omega
    have n3 : ¬ m3 < 0 := by omega
    clear hQ hR k1
    go_enter Try.func87, Try.ntmps87
    go_wp2_with (go_at_call 93; refine HLD.out _ |>.mono ?_; rintro e w1 ⟨rfl, rfl⟩)
    go_loop [15, 16] (fun v u => v = .int .u64 q1 ∧ u = .int .u64 rh) (fun _ _ => 0)
    case atStart => exact ⟨by simp only [hq1], by simp only⟩
    case round =>
      obtain ⟨rfl, rfl⟩ := hrel
      go_wp2
      go_loop [18, 16] (fun v u => v = .int .u64 q0 ∧ u = .int .u64 r0) (fun _ _ => 0)
      case atStart => exact ⟨rfl, rfl⟩
      case round =>
        obtain ⟨rfl, rfl⟩ := hrel
        go_wp2
        go_ret2
        exact ⟨rfl, 0, rfl⟩
end Go.Proofs.Ytmndkbfjmamnfaa
