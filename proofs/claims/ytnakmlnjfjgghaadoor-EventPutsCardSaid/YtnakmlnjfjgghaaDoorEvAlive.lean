/- The document's example holds of the program. -/
import Derived.Test.YtnakmlnjfjgghaaDoorEvNames
import Derived.Test.YtnakmlnjfjgghaaDoorEvPuts
namespace Go.Proofs.YtnakmlnjfjgghaaDoor
open Go.RowKit Base

theorem zero7 : encS [0, 0, 0, 0, 0, 0, 0] = ⟨#[0, 0, 0, 0, 0, 0, 0]⟩ := by decide +kernel
theorem name4 : nameS 4 = ⟨#[111, 114, 100, 101, 114]⟩ := by decide +kernel
theorem reason11 : reasonS 11 = ⟨#[109, 97, 114, 103, 105, 110]⟩ := by decide +kernel

set_option maxRecDepth 100000 in
set_option maxHeartbeats 1000000 in
theorem alive6 (w : World) (hK : KHeld w) : Calls Tryd.prog 6 #[] w fun e w' => e = .returned (.bool true) ∧ Below w.heap.size w w' := by
  have hp := put7 0 0 0 0 0 0 0 w (fun x hx => by simp at hx; omega)
  rw [zero7] at hp
  have HP := Lib.hid hp
  have hn := fun (W : World) (h : KHeld W) => name19 4 W h
  rw [name4] at hn
  have HN := Lib.hid hn
  have hr := fun (W : World) (h : KHeld W) => reason21 11 W h
  rw [reason11] at hr
  have HR := Lib.hid hr
  have HK := Lib.hid hK
  clear hp hn hr hK
  go_enter Tryd.func6, Tryd.ntmps6
  go_wp2_with (first
    | (go_at_call 7; refine HP.out.mono ?_; rintro e w1 ⟨rfl, hb⟩; have HB := Lib.hid hb; clear hb)
    | (go_at_call 19; refine (HN.out _ (HK.out.below HB.out)).mono ?_; rintro e w2 ⟨rfl, rfl⟩)
    | (go_at_call 21; refine (HR.out _ (HK.out.below HB.out)).mono ?_; rintro e w3 ⟨rfl, rfl⟩))
  go_ret
  exact ⟨rfl, HB.out⟩
end Go.Proofs.YtnakmlnjfjgghaaDoor
