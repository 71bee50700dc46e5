/- The split of a count: the contracts of bits.Len64, bits.Len, Split, and the document's Split. -/
import Derived.Test.YtalgailclcefdaaDoorTreeMath
import Derived.WalkKit
import Derived.Deep.Cut
import Derived.IntWalk
import Derived.Lib.Hide
import Derived.Lib.Strings
import Derived.Lib.Slices
import Derived.Lib.Small
import Derived.Lib.Walk
import Derived.Lib.BitFns
namespace Go.Proofs.YtalgailclcefdaaDoor
open Go.RowKit

theorem log2_bits : ∀ n : Fin 256, Lib.bitLen n.val = if n.val = 0 then 0 else Nat.log2 n.val + 1 := by decide +kernel
theorem log2_shift (x : Nat) (h : 256 ≤ x) : Nat.log2 x = Nat.log2 (x / 256) + 8 := by
  rw [Nat.log2_eq_iff (by omega)]
  have h1 := Nat.log2_self_le (n := x / 256) (by omega)
  have h2 := Nat.lt_log2_self (n := x / 256)
  rw [Nat.pow_succ] at h2
  have e1 : 2 ^ (Nat.log2 (x / 256) + 8) = 2 ^ Nat.log2 (x / 256) * 256 := by rw [Nat.pow_add]
  have e2 : 2 ^ (Nat.log2 (x / 256) + 8 + 1) = 2 ^ Nat.log2 (x / 256) * 512 := by rw [Nat.pow_succ, Nat.pow_add]; omega
  omega

theorem w64 {x : Int} (h0 : -9223372036854775808 ≤ x) (h1 : x ≤ 9223372036854775807) : wrap64 x = x := by unfold wrap64; omega
theorem len8_at (y : Int) (h0 : 0 ≤ y) (h : y < 256) (h2 : y.toNat < Lib.len8tab.size) : wrap64 ((Lib.len8tab[y.toNat]'h2).toNat : Int) = ((if y.toNat = 0 then 0 else Nat.log2 y.toNat + 1 : Nat) : Int) := by
  have e := log2_bits ⟨y.toNat, by omega⟩
  have e2 := Lib.len8_eq ⟨y.toNat, by omega⟩
  have e3 := Lib.bitLen_le8 ⟨y.toNat, by omega⟩
  simp only at e e2 e3
  rw [← e]
  have e4 : Lib.len8 (y.toNat : Int) = ((Lib.len8tab[y.toNat]'h2).toNat : Int) := by
    unfold Lib.len8
    rw [Int.toNat_natCast, getElem?_pos Lib.len8tab y.toNat h2]
    rfl
  rw [← e4, e2, w64 (by omega) (by omega)]

set_option maxHeartbeats 4000000 in
set_option maxRecDepth 100000 in
theorem len64 (x : Int) (w : World) (h0 : 1 ≤ x) (h1 : x ≤ 65535) :
    Calls Tryd.prog 64 #[.int .u64 x] w fun e w' => e = .returned (.int .i64 ((Nat.log2 x.toNat + 1 : Nat) : Int)) ∧ w' = w := by
  have hsz : Lib.len8tab.size = 256 := by decide
  go_enter Tryd.func64, Tryd.ntmps64
  go_wp2
  all_goals go_ret
  · refine ⟨congrArg Ending.returned (congrArg (Value.int IntKind.i64) ?_), rfl⟩
    rw [len8_at (x / 256) (by omega) (by omega) (by omega)]
    have e : (x / 256).toNat = x.toNat / 256 := by omega
    have e2 := log2_shift x.toNat (by omega)
    rw [e, if_neg (by omega), e2]
    have e3 : Nat.log2 (x.toNat / 256) < 256 := by rw [Nat.log2_lt (by omega)]; exact Nat.lt_of_lt_of_le (show x.toNat / 256 < 2 ^ 8 by omega) (Nat.pow_le_pow_right (by omega) (by omega))
    rw [w64 (by omega) (by omega)]; omega
  · refine ⟨congrArg Ending.returned (congrArg (Value.int IntKind.i64) ?_), rfl⟩
    rw [len8_at x (by omega) (by omega) (by omega), if_neg (by omega)]
    have e3 : Nat.log2 x.toNat < 256 := by rw [Nat.log2_lt (by omega)]; exact Nat.lt_of_lt_of_le (show x.toNat < 2 ^ 8 by omega) (Nat.pow_le_pow_right (by omega) (by omega))
    rw [w64 (by omega) (by omega)]
theorem lenB (x : Int) (w : World) (h0 : 1 ≤ x) (h1 : x ≤ 65535) :
    Calls Tryd.prog 50 #[.int .u64 x] w fun e w' => e = .returned (.int .i64 ((Nat.log2 x.toNat + 1 : Nat) : Int)) ∧ w = w' := by
  have H := Lib.hid (len64 x w h0 h1)
  go_enter Tryd.func50, Tryd.ntmps50
  go_wp2_with (go_at_call 64; refine H.out.mono ?_; rintro e w' ⟨rfl, rfl⟩)
  go_ret
  exact ⟨rfl, rfl⟩
/-- Split, the program's. -/
theorem splitP (c : Nat) (w : World) (h1 : c ≤ 60000) : Calls Tryd.prog 36 #[.int .i64 (c : Int)] w fun e w' => e = .returned (.int .i64 (spl c : Int)) ∧ w = w' := by
  by_cases h : c < 2
  · have h2 : (c : Int) < 2 := by omega
    rw [spl_small h]
    go_enter Tryd.func36, Tryd.ntmps36
    go_wp2
    go_ret
    exact ⟨rfl, rfl⟩
  · have h2 : ¬ (c : Int) < 2 := by omega
    have HL := Lib.hid (lenB ((c : Int) - 1) w (by omega) (by omega))
    have e : ((c : Int) - 1).toNat = c - 1 := by omega
    rw [e] at HL
    have HS := Lib.hid (show spl c = 2 ^ Nat.log2 (c - 1) by unfold spl; rw [if_neg h])
    have hb : Nat.log2 (c - 1) < 16 := by rw [Nat.log2_lt (by omega)]; exact Nat.lt_of_lt_of_le (show c - 1 < 65536 by omega) (Nat.le_refl _)
    generalize Nat.log2 (c - 1) = g at *
    clear e
    go_enter Tryd.func36, Tryd.ntmps36
    go_wp2_with (go_at_call 50; refine HL.out.mono ?_; rintro e w' ⟨rfl, rfl⟩)
    go_ret
    have hp : (2 : Int) ^ g = ((2 ^ g : Nat) : Int) := by simp
    have hp2 : 2 ^ g < 2 ^ 16 := Nat.pow_lt_pow_right (by omega) hb
    refine ⟨congrArg Ending.returned (congrArg (Value.int IntKind.i64) ?_), rfl⟩
    rw [HS.out, hp]
    generalize 2 ^ g = Q at *
    exact w64 (by omega) (by omega)
/-- Split, the document's. -/
theorem splitR (c : Nat) (w : World) (h1 : c ≤ 60000) : Calls Tryd.prog 22 #[.int .i64 (c : Int)] w fun e w' => e = .returned (.int .i64 (spl c : Int)) ∧ w = w' := by
  by_cases h : c < 2
  · have h2 : (c : Int) < 2 := by omega
    rw [spl_small h]
    go_enter Tryd.func22, Tryd.ntmps22
    go_wp2
    go_ret
    exact ⟨rfl, rfl⟩
  · have h2 : ¬ (c : Int) < 2 := by omega
    go_enter Tryd.func22, Tryd.ntmps22
    go_upto_region 5 with (fail)
    go_loop [3, 4] (fun vk vi => ∃ i : Nat, i ≤ 16 ∧ vi = .int .i64 (i : Int) ∧ vk = .int .i64 ((2 ^ i : Nat) : Int) ∧ 2 ^ i < c) (fun _ vi => 17 - (intOf vi).toNat)
    case atStart => exact ⟨0, by omega, rfl, rfl, by omega⟩
    case round =>
      obtain ⟨i, hi, rfl, rfl, hlt⟩ := hrel
      obtain ⟨q, hq⟩ : ∃ q, 2 ^ i = q := ⟨_, rfl⟩
      have hi15 : i < 16 := by
        by_cases hh : i < 16
        · exact hh
        · have : i = 16 := by omega
          subst this; omega
      have HS := Lib.hid (fun hc => spl_is (c := c) (a := i) (by omega) hlt hc)
      have HQ := Lib.hid (show 2 ^ (i + 1) = 2 * q by rw [Nat.pow_succ, hq]; omega)
      rw [hq] at hlt HS ⊢
      clear hq
      by_cases hc : (q : Int) < (c : Int) - (q : Int)
      · go_wp2
        go_round
        case rel => exact ⟨i + 1, by omega, by go_num, by rw [HQ.out]; go_num, by rw [HQ.out]; omega⟩
        case measure => simp [intOf]; omega
      · go_wp2
        go_ret
        exact ⟨by rw [HS.out (by omega)]; rfl, rfl⟩
end Go.Proofs.YtalgailclcefdaaDoor
