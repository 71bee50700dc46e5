/- The contract of alive: the document's example holds. -/
import Derived.Test.YtedkjiheanmkeaaFails
namespace Go.Proofs.Ytedkjiheanmkeaa
open Go.RowKit

theorem alive_num : numTo (⟨#[128, 0]⟩ : ByteArray).data.toList (fun n => decide ((n : Int) ≤ 9)) = (0, 0, 3) := by decide +kernel
theorem alive19 (p : Nat) (w : World) (hX : RdX w p ⟨#[128, 0]⟩ 0) :
    Calls Try.prog 19 #[.pointer (some ⟨p, 0, none⟩), .int .u64 9] w fun x w' => x = .returned (.int .u64 0) ∧ RdX w' p ⟨#[128, 0]⟩ 3 ∧ w.grownBy w' (some p) := by
  have h := num19 p ⟨#[128, 0]⟩ 0 9 w (by decide) hX
  rw [alive_num] at h
  exact h

theorem below_own {w w1 w2 : World} {p : Nat} (h : Below w.heap.size w w1) (hg : w1.grownBy w2 (some p)) (hp : w.heap.size ≤ p) : Below w.heap.size w w2 :=
  ⟨hg.os.trans h.os, hg.tape.trans h.tape, hg.output.trans h.output, Nat.le_trans h.size hg.size, fun k hk => (hg.block k (by have := h.size; omega) (by simp; omega)).trans (h.block k hk)⟩

set_option maxRecDepth 100000 in
set_option maxHeartbeats 1000000 in
/-- The document's example holds. -/
theorem alive7 (w : World) : Calls Try.prog 7 #[] w fun x w' => x = .returned (.bool true) ∧ Below w.heap.size w w' := by
  have q1 : ((M.encB 300).toList == [172, 2]) = true := by decide +kernel
  have q2 : ((M.encB (M.zig (-3)).toNat).toList == [5]) = true := by decide +kernel
  have q3 : ((rowB ⟨#[97, 98]⟩).toList == [2, 97, 98]) = true := by decide +kernel
  go_enter Try.func7, Try.ntmps7
  go_wp2_with (first
    | (go_at_call 18; refine (read18 _ _).mono ?_; rintro x w1 ⟨rfl, hX, hb1⟩; have HX := Lib.hid hX; clear hX)
    | (go_at_call 8; refine (num8 300 _ (by omega) (by omega)).mono ?_; rintro x w2 ⟨rfl, hb2⟩)
    | (go_at_call 10; refine (int10 (-3) _ (by omega) (by omega)).mono ?_; rintro x w3 ⟨rfl, hb3⟩)
    | (go_at_call 12; refine (row12 _ _ (by decide)).mono ?_; rintro x w4 ⟨rfl, hb4⟩; have hp := HX.out.lt; have HX4 := Lib.hid (((HX.out.below hb2 hp).below hb3 (by have := hb2.size; omega)).below hb4 (by have := hb2.size; have := hb3.size; omega)))
    | (go_at_call 19; refine (alive19 _ _ HX4.out).mono ?_; rintro x w5 ⟨rfl, hX5, hg5⟩; have HX5 := Lib.hid hX5; clear hX5)
    | (go_at_call 22; refine (fault22 _ _ _ _ HX5.out).mono ?_; rintro x w6 ⟨rfl, rfl⟩))
  go_ret
  refine ⟨rfl, ?_⟩
  have s1 := hb1.size; have s2 := hb2.size; have s3 := hb3.size
  exact below_own (((hb1.trans (hb2.mono s1)).trans (hb3.mono (by omega))).trans (hb4.mono (by omega))) hg5 (Nat.le_refl _)
end Go.Proofs.Ytedkjiheanmkeaa
