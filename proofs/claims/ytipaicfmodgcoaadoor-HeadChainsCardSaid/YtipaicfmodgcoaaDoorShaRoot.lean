/- The first 32 bits behind the point of a root: the contract of root. -/
import Derived.Test.YtipaicfmodgcoaaDoorShaBelow
namespace Go.Proofs.YtipaicfmodgcoaaDoor
open Go.RowKit

theorem ret_int {k : IntKind} {a b : Int} (h : a = b) : Ending.returned (.int k a) = .returned (.int k b) := by rw [h]

/-- Is the cube (the square) of y at most p, of 32 bits behind the point? -/
def atMost (cube : Bool) (p y : Nat) : Bool := if cube then decide (y * y * y ≤ p * 79228162514264337593543950336) else decide (y * y ≤ p * 18446744073709551616)

/-- The root's bits, from the bit of 2 to the j on. -/
def rootF (cube : Bool) (p : Nat) : Nat → Nat → Nat
  | 0, x => x
  | j + 1, x => rootF cube p j (if atMost cube p (x + 2 ^ j) then x + 2 ^ j else x)

/-- The first 32 bits behind the point of a root. -/
def rootV (cube : Bool) (p : Nat) : Nat := rootF cube p 37 0 % 4294967296

theorem below17 (x p : Nat) (cube : Bool) (w : World) (hx2 : x ≤ 137438953472) :
    Calls Tryd.prog 69 #[.int .u64 (x : Int), .int .u64 (p : Int), .bool cube] w fun e w' => e = .returned (.bool (atMost cube p x)) ∧ w = w' := by
  cases cube with
  | false =>
    refine (below17_sq x p w (by omega) (by omega)).mono fun e w' ⟨he, hw⟩ => ⟨?_, hw⟩
    rw [he]
    refine ret_bool ?_
    unfold atMost
    simp only [Bool.false_eq_true, if_false, decide_eq_decide]
    rw [← Int.ofNat_le]; simp
  | true =>
    refine (below17_cu x p w (by omega) (by omega)).mono fun e w' ⟨he, hw⟩ => ⟨?_, hw⟩
    rw [he]
    refine ret_bool ?_
    unfold atMost
    simp only [if_true, decide_eq_decide]
    rw [← Int.ofNat_le]; simp

set_option maxHeartbeats 1000000 in
theorem root16 (p : Nat) (cube : Bool) (w : World) :
    Calls Tryd.prog 53 #[.int .u64 (p : Int), .bool cube] w fun e w' => e = .returned (.int .u32 (rootV cube p)) ∧ w = w' := by
  go_enter Tryd.func53, Tryd.ntmps53
  go_wp2
  go_loop [5, 6] (fun a b => ∃ j x t : Nat, a = .int .u64 (x : Int) ∧ b = .int .u64 (t : Int) ∧ j ≤ 37 ∧ t = 2 ^ j / 2 ∧ x + 2 ^ j ≤ 137438953472 ∧ rootF cube p 37 0 = rootF cube p j x) (fun _ b => (intOf b).toNat)
  case atStart => exact ⟨37, 0, 68719476736, rfl, rfl, by omega, by decide, by decide, rfl⟩
  case round =>
    obtain ⟨j, x, t, rfl, rfl, hj, ht, hx, hr⟩ := hrel
    have HR := Lib.hid hr; clear hr
    cases j with
    | zero =>
      have h0 : ¬ (0 : Int) < (t : Int) := by rw [ht]; decide
      have hv : Hid (rootV cube p = x % 4294967296) := by show _ = _; unfold rootV; rw [HR.out]; rfl
      clear ht
      have hb : x ≤ 137438953472 := by omega
      go_wp2
      go_ret
      exact ⟨ret_int (by rw [hv.out]; simp), rfl⟩
    | succ j =>
      have ht2 : t = 2 ^ j := by rw [ht, Nat.pow_succ]; omega
      have hpos : 0 < 2 ^ j := Nat.pow_pos (by omega)
      have h0 : (0 : Int) < (t : Int) := by omega
      have hb : x + t ≤ 137438953472 := by rw [ht2]; rw [Nat.pow_succ] at hx; omega
      have hx2 : x + 2 ^ j + 2 ^ j ≤ 137438953472 := by rw [Nat.pow_succ] at hx; omega
      have H17 := Lib.hid (below17 (x + t) p cube w hb)
      have HT := Lib.hid ht2
      have HX := Lib.hid hx2
      clear ht ht2 hx hx2 hpos
      by_cases hc : atMost cube p (x + t) = true
      · go_wp2_with (go_at_call 69; have h := H17.out; rw [Int.natCast_add] at h; refine h.mono ?_; rintro e w' ⟨rfl, rfl⟩)
        go_round
        case rel => exact ⟨j, x + t, t / 2, by go_num, by go_num, by omega, by rw [HT.out], by rw [HT.out]; exact HX.out, by rw [HR.out, rootF, ← HT.out, if_pos hc]⟩
        case measure => simp [intOf]; omega
      · have hc2 : atMost cube p (x + t) = false := by simpa using hc
        clear hc
        go_wp2_with (go_at_call 69; have h := H17.out; rw [Int.natCast_add] at h; refine h.mono ?_; rintro e w' ⟨rfl, rfl⟩)
        go_round
        case rel => exact ⟨j, x, t / 2, rfl, by go_num, by omega, by rw [HT.out], by have := HX.out; omega, by rw [HR.out, rootF, ← HT.out, if_neg (by rw [hc2]; decide)]⟩
        case measure => simp [intOf]; omega
end Go.Proofs.YtipaicfmodgcoaaDoor
