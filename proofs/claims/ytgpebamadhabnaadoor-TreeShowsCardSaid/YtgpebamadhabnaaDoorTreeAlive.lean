/- The document's example: the contract of alive. -/
import Derived.Test.YtgpebamadhabnaaDoorTreeCheck
import Derived.Test.YtgpebamadhabnaaDoorTreeComes
namespace Go.Proofs.YtgpebamadhabnaaDoor
open Go.RowKit

def l5 : List ByteArray := [⟨#[97]⟩, ⟨#[98]⟩, ⟨#[99]⟩, ⟨#[100]⟩, ⟨#[101]⟩]
theorem spl5 : spl 5 = 4 := by decide
theorem spl4 : spl 4 = 2 := by decide
theorem proof5 (h : ByteArray → ByteArray) : proofS h l5 4 = [rootS h (l5.take 4)] := by
  rw [proofS_right h (by decide) (by decide)]
  rw [show spl l5.length = 4 from spl5, proofS_nil h _ (by decide)]
  rfl
theorem strs_new (w : World) (l : List ByteArray) : StrsAt (w.alloc (.cells (l.map Value.string).toArray 9)) (some ⟨w.heap.size, 0, none⟩) l := by
  refine .inr ⟨w.heap.size, 0, rfl, by simp, fun i t hi => ?_⟩
  have h := heap_alloc_new w (.cells (l.map Value.string).toArray 9)
  rw [cell_of_row _ _ _ _ 9 (0, 0) h]
  simp [hi]

set_option maxRecDepth 100000 in
set_option maxHeartbeats 1000000 in
theorem alive6t (w : World) (hK : KHeld w) : Calls Tryd.prog 6 #[] w fun e w' => e = .returned (.bool true) ∧ Below w.heap.size w w' := by
  have hz : ∀ t ∈ l5, t.size ≤ 700000 := by decide
  have hP := fun (W : World) (hb : Below w.heap.size w W) (hs : StrsAt W (some ⟨w.heap.size, 0, none⟩) l5) => proof9 (some ⟨w.heap.size, 0, none⟩) l5 5 5 4 32 W rfl (by omega) (by omega) (by omega) (by omega) hz hs (by omega) (KHeld_of hK hb)
  have hR := fun (W : World) (hb : Below w.heap.size w W) (hs : StrsAt W (some ⟨w.heap.size, 0, none⟩) l5) => root8 (some ⟨w.heap.size, 0, none⟩) (l5.take 4) 4 5 32 W rfl (by omega) (by omega) (by omega) (mem_take' hz) (hs.take 4) (by omega) (KHeld_of hK hb)
  simp only [proof5] at hP
  have hsz := rootS_size (cutH 32) 32 (cutH_size 32 (by omega)) (l5.take 4)
  generalize rootS (cutH 32) (l5.take 4) = R at *
  have HP := Lib.hid (show ∀ W, Below w.heap.size w W → StrsAt W (some ⟨w.heap.size, 0, none⟩) l5 → Calls Tryd.prog 9 #[.slice (some ⟨w.heap.size, 0, none⟩) 5 5, .int .i64 4, .int .i64 32] W fun x w' => ∃ v, x = .returned (.tuple #[v, .int .i64 0]) ∧ w'.ownsRow W.heap.size 9 1 v 1 [.string R] ∧ Below W.heap.size W w' from hP)
  have HR := Lib.hid (show ∀ W, Below w.heap.size w W → StrsAt W (some ⟨w.heap.size, 0, none⟩) l5 → Calls Tryd.prog 8 #[.slice (some ⟨w.heap.size, 0, none⟩) 4 5, .int .i64 32] W fun x w' => x = .returned (.tuple #[.string R, .int .i64 0]) ∧ Below W.heap.size W w' from hR)
  have HS5 := Lib.hid (show ∀ W, Calls Tryd.prog 17 #[.int .i64 5] W fun e w' => e = .returned (.int .i64 4) ∧ W = w' from fun W => splitP 5 W (by omega))
  have HS4 := Lib.hid (show ∀ W, Calls Tryd.prog 17 #[.int .i64 4] W fun e w' => e = .returned (.int .i64 2) ∧ W = w' from fun W => splitP 4 W (by omega))
  have hsz2 : (R.size : Int) = 32 := by omega
  clear hP hR hz hK hsz
  go_enter Tryd.func6, Tryd.ntmps6
  go_upto_region 2 with (fail)
  refine at_world (Φ := fun W => Below w.heap.size w W ∧ StrsAt W (some ⟨w.heap.size, 0, none⟩) l5) ⟨(Below.refl _ w).alloc (Nat.le_refl _) _, strs_new w l5⟩ ?_
  rintro W ⟨g1, g2⟩
  have HB := Lib.hid g1; have HL := Lib.hid g2
  clear g1 g2
  go_upto_region 4 with (first
    | (go_at_call 9; refine (HP.out _ HB.out HL.out).mono ?_; rintro e w1 ⟨v, rfl, ho, hb1⟩; have HO := Lib.hid ho; have HB1 := Lib.hid hb1; clear hb1 ho)
    | (go_at_call 8; refine (HR.out _ (bt2 HB.out HB1.out) (HL.out.below HB1.out)).mono ?_; rintro e w2 ⟨rfl, hb2⟩; have HB2 := Lib.hid (bt2 (bt2 HB.out HB1.out) hb2); have HO2 := Lib.hid (own_below HO.out hb2); clear hb2))
  obtain ⟨g, cap, hv⟩ : ∃ g cap, v = .slice (some ⟨g, 0, none⟩) 1 cap := by
    rcases HO2.out.2 with ⟨_, h0⟩ | ⟨g, cap, cur, hv, _⟩
    · omega
    · exact ⟨g, cap, hv⟩
  subst hv
  have c1 : w2.cell? ⟨g, 0, none⟩ = some (.string R) := by
    have := HO2.out.cells (g := g) rfl 0 (.string R) rfl
    rwa [Addr.add_mid] at this
  go_wp2_with (first
    | (go_at_call_of 17 (Value.int .i64 5); refine (HS5.out _).mono ?_; rintro e w' ⟨rfl, rfl⟩)
    | (go_at_call_of 17 (Value.int .i64 4); refine (HS4.out _).mono ?_; rintro e w' ⟨rfl, rfl⟩))
  go_ret
  exact ⟨rfl, HB2.out⟩
end Go.Proofs.YtgpebamadhabnaaDoor
