/- The walk of EventNames. -/
import Derived.Test.YtnakmlnjfjgghaaDoorEvAlive
namespace Go.Proofs.YtnakmlnjfjgghaaDoor
open Go.RowKit Base

set_option maxRecDepth 100000 in
set_option maxHeartbeats 1000000 in
theorem walk5 (n : Int) (w : World) (hK : KHeld w) : Calls Tryd.prog 5 #[.int .i64 n] w fun e w' => e = .returned (.bool true) ∧ Below w.heap.size w w' := by
  have HA := Lib.hid (alive6 w hK)
  have HN := Lib.hid (fun (W : World) (h : KHeld W) => name19 n W h)
  have HM := Lib.hid (fun (W : World) => rname20 n W)
  have HR := Lib.hid (fun (W : World) (h : KHeld W) => reason21 n W h)
  have HS := Lib.hid (fun (W : World) => rreason22 n W)
  have HK := Lib.hid hK
  generalize nameS n = x at *
  generalize reasonS n = y at *
  clear hK
  go_enter Tryd.func5, Tryd.ntmps5
  go_wp2_with (first
    | (go_at_call 6; refine HA.out.mono ?_; rintro e w1 ⟨rfl, hb⟩; have HB := Lib.hid hb; clear hb)
    | (go_at_call 19; refine (HN.out _ (HK.out.below HB.out)).mono ?_; rintro e w2 ⟨rfl, rfl⟩)
    | (go_at_call 20; refine (HM.out _).mono ?_; rintro e w2 ⟨rfl, rfl⟩)
    | (go_at_call 21; refine (HR.out _ (HK.out.below HB.out)).mono ?_; rintro e w3 ⟨rfl, rfl⟩)
    | (go_at_call 22; refine (HS.out _).mono ?_; rintro e w4 ⟨rfl, hb⟩; have HB2 := Lib.hid hb; clear hb))
  go_ret
  exact ⟨rfl, bt2 HB.out HB2.out⟩
end Go.Proofs.YtnakmlnjfjgghaaDoor
