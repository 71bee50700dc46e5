/- The laws' example: alive. -/
import Derived.Test.YtipodikjdgnocaaMoneySum
namespace Go.Proofs.Ytipodikjdgnocaa
open Go.RowKit Base

theorem alive6 (w : World) : Calls Try.prog 6 #[] w fun e w' => e = .returned (.bool true) ∧ Below w.heap.size w w' := by
  have f1 := fit_no (z := 4611686018427387904 * 2) (by decide)
  have HM := Lib.hid (fun (W : World) => mul10 4611686018427387904 2 W (by unfold In64'; omega) (by unfold In64'; omega))
  rw [f1.1, f1.2] at HM
  have f2 := fit_yes (z := 0) (by decide)
  have f3 := fit_yes (z := 51) (by decide)
  have H1 := Lib.hid (fun (k : Nat) (W : World) (h : NumAt W k 39 0) => addMul17 k 0 4611686018427387904 4 W h (by unfold In64'; omega) (by unfold In64'; omega) (by unfold In192; omega))
  have H2 := Lib.hid (fun (k : Nat) (W : World) (h : NumAt W k 39 (0 + 4611686018427387904 * 4)) => addMul17 k (0 + 4611686018427387904 * 4) (-4611686018427387904) 4 W h (by unfold In64'; omega) (by unfold In64'; omega) (by unfold In192; omega))
  have H3 := Lib.hid (fun (k : Nat) (W : World) (h : NumAt W k 39 0) => total18 k 0 W h)
  have H4 := Lib.hid (fun (k : Nat) (W : World) (h : NumAt W k 39 0) => add16 k 0 101 W h (by unfold In64'; omega) (by unfold In192; omega))
  have H5 := Lib.hid (fun (k : Nat) (W : World) (h : NumAt W k 39 (0 + 101)) => share19 k (0 + 101) 50 W h (by unfold In64'; omega) (by intros; unfold In192; omega))
  rw [show (0 + 4611686018427387904 * 4 + -4611686018427387904 * 4 : Int) = 0 by decide] at H2
  rw [show mayB (0 + 101) 50 = true by decide, if_pos rfl, Bool.true_and, show shr (0 + 101) 50 = 51 by decide, f3.1, f3.2] at H5
  rw [f2.1, f2.2] at H3
  clear f1 f2 f3
  go_enter Try.func6, Try.ntmps6
  go_upto_region 2 with (go_at_call 10; refine (HM.out _).mono ?_; rintro e W1 ⟨rfl, hb1⟩; have HB1 := Lib.hid hb1; clear hb1)
  go_upto_region 3 with (fail)
  have hn := num_new W1
  have hbn := bt2 HB1.out ((Below.refl W1.heap.size W1).alloc (Nat.le_refl _) (.cells #[.int .u64 0, .int .u64 0, .int .u64 0] 39))
  have hk := HB1.out.size
  generalize W1.heap.size = k at *
  refine at_world (Φ := fun W => NumAt W k 39 0 ∧ Below w.heap.size w W) ⟨hn, hbn⟩ ?_
  clear hn hbn HB1
  rintro W2 ⟨hn2, hb2⟩
  have HN2 := Lib.hid hn2; have HB2 := Lib.hid hb2
  clear hn2 hb2
  go_upto_region 4 with (go_at_call 17; refine (H1.out k _ HN2.out).mono ?_; rintro e W3 ⟨rfl, hn3, hg3⟩; have HN3 := Lib.hid hn3; have HB3 := Lib.hid (below_grownB HB2.out hg3 (Nat.le_refl _) hk); clear hn3 hg3)
  go_upto_region 5 with (go_at_call 17; refine (H2.out k _ HN3.out).mono ?_; rintro e W4 ⟨rfl, hn4, hg4⟩; have HN4 := Lib.hid hn4; have HB4 := Lib.hid (below_grownB HB3.out hg4 (Nat.le_refl _) hk); clear hn4 hg4)
  go_upto_region 6 with (go_at_call 18; refine (H3.out k _ HN4.out).mono ?_; rintro e W5 ⟨rfl, rfl⟩)
  go_upto_region 7 with (go_at_call 16; refine (H4.out k _ HN4.out).mono ?_; rintro e W6 ⟨rfl, hn6, hg6⟩; have HN6 := Lib.hid hn6; have HB6 := Lib.hid (below_grownB HB4.out hg6 (Nat.le_refl _) hk); clear hn6 hg6)
  go_wp2_with (go_at_call 19; refine (H5.out k _ HN6.out).mono ?_; rintro e W7 ⟨rfl, hb7⟩; have HB7 := Lib.hid (bt2 HB6.out hb7); clear hb7)
  go_ret
  exact ⟨rfl, HB7.out⟩
end Go.Proofs.Ytipodikjdgnocaa
