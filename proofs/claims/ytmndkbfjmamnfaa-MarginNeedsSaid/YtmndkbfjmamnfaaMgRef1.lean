/- The document's product of two numbers, exactly. -/
import Derived.Test.YtmndkbfjmamnfaaMgMath
import Derived.Test.YtmndkbfjmamnfaaMoneyFits
namespace Go.Proofs.Ytmndkbfjmamnfaa
open Go.RowKit Base

set_option maxRecDepth 100000 in
set_option maxHeartbeats 4000000 in
theorem rmul34 (a b : Int) (w : World) (ha : In64' a) (hb : In64' b) :
    Calls Try.prog 34 #[.int .i64 a, .int .i64 b] w fun e w' => RetBig w.heap.size w (a * b) e w' := by
  have HOA := Lib.hid (fun (W : World) => of7 a W ha.1 ha.2)
  have HOB := Lib.hid (fun (W : World) => of7 b W hb.1 hb.2)
  have HMU := Lib.hid (fun (v1 v2 : Value) (W : World) (h1 : BigIs W v1 a) (h2 : BigIs W v2 b) => mul15 v1 v2 a b W h1 h2 (in64_pow ha) (in64_pow hb))
  generalize a * b = z at *
  obtain ⟨B, hB⟩ : ∃ B, B = w.heap.size := ⟨_, rfl⟩
  have HB := Lib.hid hB
  rw [← hB]
  clear hB ha hb
  go_enter Try.func34, Try.ntmps34
  go_upto_region 1 with (fail)
  rw [← HB.out]
  refine at_world (Φ := fun W => BoxAt W B false (.slice none 0 0) ∧ Below B w W) ⟨by rw [HB.out]; exact BoxAt.new _ _ _, by rw [HB.out]; exact (Below.refl _ _).alloc (Nat.le_refl _) _⟩ ?_
  rintro W ⟨h0, hb0⟩
  have H0 := Lib.hid h0
  have HL0 := Lib.hid hb0
  clear h0 hb0
  go_wp2_with (first
    | (have hq := HA1.out; clear hq; go_at_call 31; refine (HOB.out _).mono ?_; rintro e w2 ⟨x2, p2, k2, c2, rfl, hbig, hb2⟩; have HA2 := Lib.hid hbig; have HL2 := Lib.hid hb2; clear hbig hb2)
    | (go_at_call 31; refine (HOA.out _).mono ?_; rintro e w1 ⟨x1, p1, k1, c1, rfl, hbig, hb1⟩; have HA1 := Lib.hid hbig; have HL1 := Lib.hid hb1; clear hbig hb1)
    | (go_at_call 37; refine (HMU.out _ _ _ (HA1.out.below HL2.out) HA2.out).mono ?_; rintro e w3 ⟨x3, p3, k3, c3, rfl, hbig, hb3⟩; have HA3 := Lib.hid hbig; have HL3 := Lib.hid hb3; have HB3 := Lib.hid (((H0.out.below HL1.out).below HL2.out).below hb3); clear hbig hb3)
    | (refine wpList_store_row rfl 71 (.tmp 4) (.tmp 9) rfl B #[.bool x3, .slice p3 k3 c3] rfl rfl 71 #[.bool false, .slice none 0 0] HB3.out info25 rfl (one25 _ _ _ _) ?_))
  refine ret_cell rfl rfl rfl (setRow_heap _ _ _ _ 71 (0, 0) HB3.out) Try.underlying71 rfl info25 ⟨x3, p3, k3, c3, rfl, ?_, ?_⟩
  · exact HA3.out.boxRow HB3.out _
  · exact below_rowB (((HL0.out.trans (HL1.out.mono (by rw [HB.out]; exact HL0.out.size))).trans ((HL2.out.mono HL1.out.size).mono (by rw [HB.out]; exact HL0.out.size))).trans (((HL3.out.mono HL2.out.size).mono HL1.out.size).mono (by rw [HB.out]; exact HL0.out.size))) (by omega)
end Go.Proofs.Ytmndkbfjmamnfaa
