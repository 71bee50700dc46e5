/- Words of 64 bits: the contracts of the library's Add64 and Mul64 at this program, and of the program's sign and product. -/
import Derived.Test.YtmndkbfjmamnfaaRows
import Derived.Test.YtmndkbfjmamnfaaBase
import Derived.Laws.Externs
import Derived.Laws.Bits64b
import Derived.Lib.Mul64
namespace Go.Proofs.Ytmndkbfjmamnfaa
open Go.RowKit Base

/-- A word. -/
def Wd (x : Int) : Prop := 0 ≤ x ∧ x < 18446744073709551616
/-- All bits of a word's sign. -/
def sgnW (x : Int) : Int := if x < 9223372036854775808 then 0 else 18446744073709551615
theorem sgnW_lo {x : Int} (h : x < 9223372036854775808) : sgnW x = 0 := by unfold sgnW; rw [if_pos h]
theorem sgnW_hi {x : Int} (h : ¬ x < 9223372036854775808) : sgnW x = 18446744073709551615 := by unfold sgnW; rw [if_neg h]
theorem sgnW_wd (x : Int) : Wd (sgnW x) := by unfold sgnW Wd; split <;> omega

theorem add31 (x y c : Int) (hx : 0 ≤ x) (hy : 0 ≤ y) (hc0 : 0 ≤ c) (hc : c ≤ 1) (w : World) : (callFunc 83 #[.int .u64 x, .int .u64 y, .int .u64 c]).run Try.prog w =
    .ok (.value (.tuple #[.int .u64 ((x + y + c) % 18446744073709551616), .int .u64 ((x + y + c) / 18446744073709551616)])) w := by
  rw [run_callFunc_extern Try.func83 (by kernel_rfl) (by kernel_rfl) (by kernel_rfl) (e := add64Entry) (by kernel_rfl), run_add64 x y c hx hy hc0 hc]
  rfl
theorem add31_0 (x y : Int) (hx : 0 ≤ x) (hy : 0 ≤ y) (w : World) : (callFunc 83 #[.int .u64 x, .int .u64 y, .int .u64 0]).run Try.prog w =
    .ok (.value (.tuple #[.int .u64 ((x + y) % 18446744073709551616), .int .u64 ((x + y) / 18446744073709551616)])) w := by
  simpa using add31 x y 0 hx hy (Int.le_refl 0) (by decide) w

theorem sign32 (x : Int) (h : Wd x) (w : World) : Calls Try.prog 84 #[.int .u64 x] w fun e w' => e = .returned (.int .u64 (sgnW x)) ∧ w = w' := by
  obtain ⟨h0, h1⟩ := h
  by_cases hl : x < 9223372036854775808
  · rw [sgnW_lo hl]
    have e1 : wrap64 x / 9223372036854775808 = 0 := by unfold wrap64; omega
    go_enter Try.func84, Try.ntmps84
    go_wp2
    go_ret
    exact ⟨ret_int (by omega), rfl⟩
  · rw [sgnW_hi hl]
    have e1 : wrap64 x / 9223372036854775808 = -1 := by unfold wrap64; omega
    have e2 : IntKind.u64.wrap (-1) = 18446744073709551615 := by decide
    go_enter Try.func84, Try.ntmps84
    go_wp2
    go_ret
    exact ⟨rfl, rfl⟩

theorem mask_i (x : Int) (h : Wd x) : bits .and .u64 x 4294967295 = x % 4294967296 := by
  obtain ⟨X, rfl⟩ := Int.eq_ofNat_of_zero_le h.1
  have h1 := h.2
  have k := bits_and_u64_nat X 4294967295 (by omega) (by omega)
  have e : X &&& 4294967295 = X % 4294967296 := Nat.and_two_pow_sub_one_eq_mod X 32
  rw [e] at k
  exact k
theorem wrap_same (x : Int) (h : Wd x) : IntKind.u64.wrap x = x := by obtain ⟨h0, h1⟩ := h; rw [IntKind.wrap_u64]; omega
theorem half_le {a b : Int} (ha : 0 ≤ a ∧ a ≤ 4294967295) (hb : 0 ≤ b ∧ b ≤ 4294967295) : 0 ≤ a * b ∧ a * b ≤ 18446744065119617025 :=
  ⟨Int.mul_nonneg ha.1 hb.1, Int.mul_le_mul ha.2 hb.2 hb.1 (by decide)⟩
/-- The product by halves. -/
theorem halves (x1 x0 y1 y0 : Int) : (x1 * 4294967296 + x0) * (y1 * 4294967296 + y0) = x1 * y1 * 18446744073709551616 + (x1 * y0 + x0 * y1) * 4294967296 + x0 * y0 := by
  rw [Int.add_mul, Int.mul_add, Int.mul_add, Int.add_mul]
  have e1 : x1 * 4294967296 * (y1 * 4294967296) = x1 * y1 * 18446744073709551616 := by rw [Int.mul_assoc, ← Int.mul_assoc 4294967296, Int.mul_comm 4294967296 y1, Int.mul_assoc y1, ← Int.mul_assoc]; rfl
  have e2 : x1 * 4294967296 * y0 = x1 * y0 * 4294967296 := by rw [Int.mul_assoc, Int.mul_comm 4294967296, ← Int.mul_assoc]
  have e3 : x0 * (y1 * 4294967296) = x0 * y1 * 4294967296 := by rw [Int.mul_assoc]
  rw [e1, e2, e3]
  omega

set_option maxRecDepth 100000 in
set_option maxHeartbeats 1000000 in
theorem mul33 (x y : Int) (hx : Wd x) (hy : Wd y) (w : World) : Calls Try.prog 85 #[.int .u64 x, .int .u64 y] w fun e w' => e = .returned (.tuple #[.int .u64 (x * y / 18446744073709551616), .int .u64 (x * y % 18446744073709551616)]) ∧ w = w' := by
  obtain ⟨P, hP⟩ : ∃ P, x * y = P := ⟨_, rfl⟩
  have hP2 : IntKind.u64.wrap P = P % 18446744073709551616 := IntKind.wrap_u64 _
  have mx := mask_i x hx; have my := mask_i y hy
  obtain ⟨x0, hx0⟩ : ∃ t, x % 4294967296 = t := ⟨_, rfl⟩
  obtain ⟨x1, hx1⟩ : ∃ t, x / 4294967296 = t := ⟨_, rfl⟩
  obtain ⟨y0, hy0⟩ : ∃ t, y % 4294967296 = t := ⟨_, rfl⟩
  obtain ⟨y1, hy1⟩ : ∃ t, y / 4294967296 = t := ⟨_, rfl⟩
  rw [hx0] at mx; rw [hy0] at my
  have hx' := hx; have hy' := hy
  obtain ⟨_, _⟩ := hx'; obtain ⟨_, _⟩ := hy'
  have bx0 : 0 ≤ x0 ∧ x0 ≤ 4294967295 := by omega
  have bx1 : 0 ≤ x1 ∧ x1 ≤ 4294967295 := by omega
  have by0 : 0 ≤ y0 ∧ y0 ≤ 4294967295 := by omega
  have by1 : 0 ≤ y1 ∧ y1 ≤ 4294967295 := by omega
  have ba := half_le bx1 by1; have bb := half_le bx1 by0; have bc := half_le bx0 by1; have bd := half_le bx0 by0
  have hh := halves x1 x0 y1 y0
  rw [show x1 * 4294967296 + x0 = x by omega, show y1 * 4294967296 + y0 = y by omega, hP] at hh
  obtain ⟨a, ha⟩ : ∃ t, x1 * y1 = t := ⟨_, rfl⟩
  obtain ⟨b, hb⟩ : ∃ t, x1 * y0 = t := ⟨_, rfl⟩
  obtain ⟨c, hc⟩ : ∃ t, x0 * y1 = t := ⟨_, rfl⟩
  obtain ⟨d, hd⟩ : ∃ t, x0 * y0 = t := ⟨_, rfl⟩
  rw [ha, hb, hc, hd] at hh
  rw [ha] at ba; rw [hb] at bb; rw [hc] at bc; rw [hd] at bd
  have wa := wrap_same a (by unfold Wd; omega); have wb := wrap_same b (by unfold Wd; omega); have wc := wrap_same c (by unfold Wd; omega); have wd := wrap_same d (by unfold Wd; omega)
  obtain ⟨d1, hd1⟩ : ∃ t, d / 4294967296 = t := ⟨_, rfl⟩
  obtain ⟨t, ht⟩ : ∃ t, b + d1 = t := ⟨_, rfl⟩
  have wt := wrap_same t (by unfold Wd; omega)
  have mt := mask_i t (by unfold Wd; omega)
  obtain ⟨t0, ht0⟩ : ∃ s, t % 4294967296 = s := ⟨_, rfl⟩
  obtain ⟨t1, ht1⟩ : ∃ s, t / 4294967296 = s := ⟨_, rfl⟩
  rw [ht0] at mt
  obtain ⟨v, hv⟩ : ∃ s, t0 + c = s := ⟨_, rfl⟩
  have wv := wrap_same v (by unfold Wd; omega)
  obtain ⟨v1, hv1⟩ : ∃ s, v / 4294967296 = s := ⟨_, rfl⟩
  obtain ⟨r, hr⟩ : ∃ s, a + t1 = s := ⟨_, rfl⟩
  have wr := wrap_same r (by unfold Wd; omega)
  obtain ⟨q, hq⟩ : ∃ s, r + v1 = s := ⟨_, rfl⟩
  have wq := wrap_same q (by unfold Wd; omega)
  have hQ : P / 18446744073709551616 = q := by omega
  rw [hP, hQ]
  clear hh ba bb bc bd bx0 bx1 by0 by1
  go_enter Try.func85, Try.ntmps85
  go_wp2
  go_ret2
  exact ⟨rfl, rfl⟩

theorem and_zero (y : Int) (h : Wd y) : bits .and .u64 0 y = 0 := by
  obtain ⟨Y, rfl⟩ := Int.eq_ofNat_of_zero_le h.1
  have h1 := h.2
  have k := bits_and_u64_nat 0 Y (by omega) (by omega)
  rw [Nat.zero_and] at k
  exact k
theorem and_ones (y : Int) (h : Wd y) : bits .and .u64 18446744073709551615 y = y := by
  obtain ⟨Y, rfl⟩ := Int.eq_ofNat_of_zero_le h.1
  have h1 := h.2
  have k := bits_and_u64_nat 18446744073709551615 Y (by omega) (by omega)
  have e : 18446744073709551615 &&& Y = Y := by
    rw [Nat.and_comm]
    have := Nat.and_two_pow_sub_one_eq_mod Y 64
    rw [show (18446744073709551615 : Nat) = 2 ^ 64 - 1 by rfl, this]
    omega
  rw [e] at k
  exact k
/-- The upper word of a product, by signs. -/
def upW (a b : Int) : Int := a * b / 18446744073709551616 % 18446744073709551616
theorem up_of (a b ua ub P s r : Int) (ha : -9223372036854775808 ≤ a ∧ a ≤ 9223372036854775807) (hb : -9223372036854775808 ≤ b ∧ b ≤ 9223372036854775807)
    (hua : ua = a % 18446744073709551616) (hub : ub = b % 18446744073709551616) (hP : ua * ub = P)
    (hs : s = if ua < 9223372036854775808 then 0 else ub) (hr : r = if ub < 9223372036854775808 then 0 else ua) :
    P % 18446744073709551616 = a * b % 18446744073709551616 ∧ ((P / 18446744073709551616 - s) % 18446744073709551616 - r) % 18446744073709551616 = upW a b := by
  unfold upW
  rcases Int.lt_or_le a 0 with na | na <;> rcases Int.lt_or_le b 0 with nb | nb
  · rw [show ua = a + 18446744073709551616 by omega] at hP hs hr
    rw [show ub = b + 18446744073709551616 by omega] at hP hs hr
    rw [if_neg (by omega)] at hs hr
    rw [Int.add_mul, Int.mul_add, Int.mul_add] at hP
    generalize a * b = T at *
    omega
  · rw [show ua = a + 18446744073709551616 by omega] at hP hs hr
    rw [show ub = b by omega] at hP hs hr
    rw [if_neg (by omega)] at hs
    rw [if_pos (by omega)] at hr
    rw [Int.add_mul] at hP
    generalize a * b = T at *
    omega
  · rw [show ua = a by omega] at hP hs hr
    rw [show ub = b + 18446744073709551616 by omega] at hP hs hr
    rw [if_pos (by omega)] at hs
    rw [if_neg (by omega)] at hr
    rw [Int.mul_add] at hP
    generalize a * b = T at *
    omega
  · rw [show ua = a by omega] at hP hs hr
    rw [show ub = b by omega] at hP hs hr
    rw [if_pos (by omega)] at hs
    rw [if_pos (by omega)] at hr
    generalize a * b = T at *
    omega

set_option maxRecDepth 100000 in
set_option maxHeartbeats 1000000 in
theorem product26 (a b : Int) (ha : -9223372036854775808 ≤ a ∧ a ≤ 9223372036854775807) (hb : -9223372036854775808 ≤ b ∧ b ≤ 9223372036854775807) (w : World) :
    Calls Try.prog 48 #[.int .i64 a, .int .i64 b] w fun e w' => e = .returned (.tuple #[.int .u64 (a * b % 18446744073709551616), .int .u64 (upW a b)]) ∧ w = w' := by
  obtain ⟨ua, hua⟩ : ∃ t, a % 18446744073709551616 = t := ⟨_, rfl⟩
  obtain ⟨ub, hub⟩ : ∃ t, b % 18446744073709551616 = t := ⟨_, rfl⟩
  have wa : IntKind.u64.wrap a = ua := by rw [IntKind.wrap_u64]; exact hua
  have wb : IntKind.u64.wrap b = ub := by rw [IntKind.wrap_u64]; exact hub
  have da : Wd ua := by unfold Wd; omega
  have db : Wd ub := by unfold Wd; omega
  have HM := Lib.hid (mul33 ua ub da db)
  have HSA := Lib.hid (sign32 ua da); have HSB := Lib.hid (sign32 ub db)
  obtain ⟨P, hP⟩ : ∃ t, ua * ub = t := ⟨_, rfl⟩
  rw [hP] at HM
  obtain ⟨s, hs⟩ : ∃ s, s = if ua < 9223372036854775808 then 0 else ub := ⟨_, rfl⟩
  obtain ⟨r, hr⟩ : ∃ r, r = if ub < 9223372036854775808 then 0 else ua := ⟨_, rfl⟩
  have fs : bits .and .u64 (sgnW ua) ub = s := by
    unfold sgnW; rw [hs]; split
    · exact and_zero ub db
    · exact and_ones ub db
  have fr : bits .and .u64 (sgnW ub) ua = r := by
    unfold sgnW; rw [hr]; split
    · exact and_zero ua da
    · exact and_ones ua da
  have bs : 0 ≤ s ∧ s < 18446744073709551616 := by rw [hs]; obtain ⟨_, _⟩ := db; split <;> omega
  have br : 0 ≤ r ∧ r < 18446744073709551616 := by rw [hr]; obtain ⟨_, _⟩ := da; split <;> omega
  obtain ⟨e1, e2⟩ := up_of a b ua ub P s r ha hb hua.symm hub.symm hP hs hr
  rw [← e2, ← e1]
  obtain ⟨L, hL⟩ : ∃ t, P % 18446744073709551616 = t := ⟨_, rfl⟩
  obtain ⟨H, hH⟩ : ∃ t, P / 18446744073709551616 = t := ⟨_, rfl⟩
  rw [hL, hH] at HM ⊢
  obtain ⟨p, hp⟩ : ∃ t, (H - s) % 18446744073709551616 = t := ⟨_, rfl⟩
  have w1 : IntKind.u64.wrap (H - s) = p := by rw [IntKind.wrap_u64]; exact hp
  obtain ⟨q, hq⟩ : ∃ t, (p - r) % 18446744073709551616 = t := ⟨_, rfl⟩
  have w2 : IntKind.u64.wrap (p - r) = q := by rw [IntKind.wrap_u64]; exact hq
  rw [hp, hq]
  clear hs hr hP e1 e2 hL hH hp hq hua hub bs br
  generalize sgnW ua = sa at *
  generalize sgnW ub = sb at *
  go_enter Try.func48, Try.ntmps48
  go_wp2_with (first
    | (go_at_call 85; refine HM.out _ |>.mono ?_; rintro e w1 ⟨rfl, rfl⟩)
    | (go_at_call_of 84 (Value.int .u64 ua); refine HSA.out _ |>.mono ?_; rintro e w1 ⟨rfl, rfl⟩)
    | (go_at_call_of 84 (Value.int .u64 ub); refine HSB.out _ |>.mono ?_; rintro e w1 ⟨rfl, rfl⟩))
  go_ret2
  exact ⟨rfl, rfl⟩
end Go.Proofs.Ytmndkbfjmamnfaa
