/- The contract of the function that points to the numbers of a pair. -/
import Derived.Test.YtnakmlnjfjgghaaDoorEvOf1
namespace Go.Proofs.YtnakmlnjfjgghaaDoor
open Go.RowKit Base

theorem info20 : (Tryd.prog.info? 20).map (fun i => (i.zero, i.size, i.bytes)) = some (some .nilIface, 1, 16) := by kernel_rfl
theorem own_mono' {W : World} {B B' n : Nat} {e : TypeId} {sz : Nat} {v : Value} {xs : List Value} (h : W.ownsRow B e sz v n xs) (hb : B' ≤ B) : W.ownsRow B' e sz v n xs := Go.Joins.ownsRow_le h hb
theorem oneV (b o : Nat) : ∀ u ∈ ptsV b o, u.oneCell' = true := by
  intro u hu
  simp [ptsV, pt] at hu
  rcases hu with rfl | rfl <;> rfl
/-- Behind both calls. -/
def Both (B b : Nat) (w : World) (v1 v2 : Value) (W : World) : Prop := Below B w W ∧ B ≤ W.heap.size ∧ W.ownsRow B 20 1 v1 7 (ptsE b 0) ∧ W.ownsRow B 20 1 v2 2 (ptsV b 7)

set_option maxRecDepth 100000 in
set_option maxHeartbeats 2000000 in
theorem ofPair26 (b : Nat) (w : World) (hb : b < w.heap.size) :
    Calls Tryd.prog 26 #[.pointer (some ⟨b, 0, none⟩)] w fun e w' => ∃ v, e = .returned v ∧ w'.ownsRow w.heap.size 20 1 v 9 (pts b 9) ∧ Below w.heap.size w w' := by
  obtain ⟨i0, hi, hz0, hz1, hz2⟩ := info_parts info20
  obtain ⟨B, hB⟩ : ∃ B, B = w.heap.size := ⟨_, rfl⟩
  rw [← hB]
  have HD := Lib.hid (show Below B w w.drew ∧ B ≤ w.drew.heap.size from ⟨(Below.refl B w).drew, by rw [hB]; exact Nat.le_refl _⟩)
  have HE := Lib.hid (fun (W : World) (h : B ≤ W.heap.size) => ofEvent24 b 0 W (by omega))
  have HV := Lib.hid (fun (W : World) (h : B ≤ W.heap.size) => ofVerdict25 b 7 W (by omega))
  have hbB : b < B := by omega
  clear hB hb
  go_enter Tryd.func26, Tryd.ntmps26
  go_wp2
  refine wp_region_held_drew (S := fun W => Below B w W ∧ B ≤ W.heap.size) (by kernel_rfl) (HD.out) (fun hS => ?_)
  refine wpAnyH_take (i := 0) (v := .pointer (some ⟨b, 0, none⟩)) rfl (by kernel_rfl) (by kernel_rfl) (by kernel_rfl) (fun _ _ _ h => h) (Or.inl ⟨by simp [Region.wanted], fun W _ => by go_simp⟩) hS ?_
  simp only [List.getElem_toArray, List.getElem_cons_zero, Act.put, List.setIfInBounds_toArray, List.set_cons_zero, List.set_cons_succ]
  refine wpAnyH_take (i := 1) (v := .pointer (some ⟨b, 0, none⟩)) rfl (by kernel_rfl) (by kernel_rfl) (by kernel_rfl) (fun _ _ _ h => h) (Or.inl ⟨by simp [Region.wanted], fun W _ => by go_simp⟩) hS ?_
  simp only [List.getElem_toArray, List.getElem_cons_zero, List.getElem_cons_succ, Act.put, List.setIfInBounds_toArray, List.set_cons_zero, List.set_cons_succ]
  refine wpAnyH_take (i := 2) (v := .pointer (some ⟨b, 0, none⟩)) rfl (by kernel_rfl) (by kernel_rfl) (by kernel_rfl) (fun _ _ _ h => h) (Or.inl ⟨by simp [Region.wanted], fun W _ => by go_simp⟩) hS ?_
  simp only [List.getElem_toArray, List.getElem_cons_zero, List.getElem_cons_succ, Act.put, List.setIfInBounds_toArray, List.set_cons_zero, List.set_cons_succ]
  refine wpAnyH_take (i := 4) (v := .pointer (some ⟨b, 0, none⟩)) rfl (by kernel_rfl) (by kernel_rfl) (by kernel_rfl) (fun _ _ _ h => h) (Or.inl ⟨by simp [Region.wanted], fun W _ => by go_simp⟩) hS ?_
  simp only [List.getElem_toArray, List.getElem_cons_zero, List.getElem_cons_succ, Act.put, List.setIfInBounds_toArray, List.set_cons_zero, List.set_cons_succ]
  refine wpAnyH_take (i := 5) (v := .pointer (some ⟨b, 0, none⟩)) rfl (by kernel_rfl) (by kernel_rfl) (by kernel_rfl) (fun _ _ _ h => h) (Or.inl ⟨by simp [Region.wanted], fun W _ => by go_simp⟩) hS ?_
  simp only [List.getElem_toArray, List.getElem_cons_zero, List.getElem_cons_succ, Act.put, List.setIfInBounds_toArray, List.set_cons_zero, List.set_cons_succ]
  refine wpAnyH_take (i := 6) (v := .pointer (some ⟨b, 7, none⟩)) rfl (by kernel_rfl) (by kernel_rfl) (by kernel_rfl) (fun _ _ _ h => h) (Or.inl ⟨by simp [Region.wanted], fun W _ => by go_simp⟩) hS ?_
  simp only [List.getElem_toArray, List.getElem_cons_zero, List.getElem_cons_succ, Act.put, List.setIfInBounds_toArray, List.set_cons_zero, List.set_cons_succ]

  refine wpAnyH_ready (rs := [3]) (by kernel_rfl) (by simp) ?_
  refine AllReadyH.cons rfl (fun K1 hK1 => ?_) AllReadyH.nil
  refine wanted_go rfl ?_
  simp only [List.getElem_toArray, List.getElem_cons_zero, List.getElem_cons_succ]
  go_wp2_with (go_at_call 24; refine (HE.out _ hS.2).mono ?_; rintro e W1 ⟨v1, rfl, ho1, hb1⟩; have HO1 := Lib.hid ho1; have HB1 := Lib.hid hb1; clear ho1 hb1)
  refine hK1.out _ _ ⟨hS.1.trans (HB1.out.mono hS.2), Nat.le_trans hS.2 HB1.out.size⟩ (fun hS1 => ?_)
  refine wpAnyH_ready (rs := [7]) (by kernel_rfl) (by simp) ?_
  refine AllReadyH.cons rfl (fun K2 hK2 => ?_) AllReadyH.nil
  refine wanted_go rfl ?_
  simp only [List.getElem_toArray, List.getElem_cons_zero, List.getElem_cons_succ]
  go_wp2_with (go_at_call 25; refine (HV.out _ hS1.2).mono ?_; rintro e W2 ⟨v2, rfl, ho2, hb2⟩; have HO2 := Lib.hid ho2; have HB2 := Lib.hid hb2; clear ho2 hb2)
  have hBoth : Both B b w v1 v2 W2 := ⟨hS1.1.trans (HB2.out.mono hS1.2), Nat.le_trans hS1.2 HB2.out.size, own_below' (own_mono' HO1.out hS.2) HB2.out, own_mono' HO2.out hS1.2⟩
  refine hK2.out _ _ (⟨hBoth.1, hBoth.2.1⟩) (fun hS2 => ?_)
  refine wpAnyH_ready (rs := [8]) (by kernel_rfl) (by simp) ?_
  refine AllReadyH.cons rfl (fun K3 hK3 => ?_) AllReadyH.nil
  refine wanted_go rfl ?_
  simp only [List.getElem_toArray, List.getElem_cons_zero, List.getElem_cons_succ]
  obtain ⟨g2, c2, rfl⟩ := own_shape' hBoth.2.2.2 (by omega)
  refine wp_append_own _ _ _ 45 rfl B 20 i0 .nilIface 1 16 Tryd.underlying45 hi hz0 hz1 hz2 rfl (by decide) _ _ _ rfl hBoth.2.2.1 ⟨g2, 0, none⟩ 2 c2 (ptsV b 7) rfl rfl (hBoth.2.2.2.cells rfl) (oneV b 7) (by unfold maxLen; omega) (by omega) hBoth.2.1 ?_
  intro v3 W3 ho3 hg3 _
  rw [ptsP] at ho3
  obtain ⟨g3, c3, rfl⟩ := own_shape' ho3 (by omega)
  have hb3 : Below B w W3 := hBoth.1.grown hg3 hBoth.2.1 (own_block_ge hBoth.2.2.1)
  refine hK3.out _ _ ⟨hb3, Nat.le_trans hBoth.2.1 hg3.size⟩ (fun hS3 => ?_)
  refine wpAnyH_ready (rs := [9]) (by kernel_rfl) (by simp) ?_
  refine AllReadyH.cons rfl (fun K4 hK4 => ?_) AllReadyH.nil
  refine wanted_go rfl ?_
  simp only [List.getElem_toArray, List.getElem_cons_zero, List.getElem_cons_succ]
  go_wp2
  refine hK4.out _ _ hS3 (fun _ => ?_)
  refine wpAnyH_done (by kernel_rfl) ?_ _
  go_wp2
  go_ret
  exact ⟨_, rfl, ho3, hb3⟩
end Go.Proofs.YtnakmlnjfjgghaaDoor
