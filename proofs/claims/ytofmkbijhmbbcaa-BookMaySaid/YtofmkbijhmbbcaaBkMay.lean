/- The walk of BookMay. -/
import Derived.Test.YtofmkbijhmbbcaaBkFinds
namespace Go.Proofs.Ytofmkbijhmbbcaa
open Go.RowKit Base Base2

set_option maxRecDepth 100000 in
set_option maxHeartbeats 8000000 in
theorem bk3 {K : World → Prop} (C : BookC K) (v u : Slots) (a b : BookT) (w : World) (hK : K w) (ha : BookIn w v a) (hb : BookIn w u b) (hwa : BookWf a) (hwb : BookWf b) :
    Calls Try.prog 3 #[.agg (cellsB v a), .agg (cellsB u b)] w fun e w' => e = .returned (.bool true) ∧ Below w.heap.size w w' := by
  have HKP := Lib.hid C.keep
  obtain ⟨W0, hW0⟩ : ∃ W, (w.alloc (.cells (cellsB v a) 27)).alloc (.cells (cellsB u b) 27) = W := ⟨_, rfl⟩
  have hlo : Below w.heap.size w W0 := by rw [← hW0]; exact ((Below.refl _ w).alloc (Nat.le_refl _) _).alloc (by simp) _
  have hx : BoxB W0 w.heap.size v a ∧ BoxB W0 (w.heap.size + 1) u b := by rw [← hW0]; exact two_new
  have HSA := Lib.hid (show Bs K w w.heap.size v a W0 from ⟨HKP.out _ _ hK hlo, hlo, hx.1, ha.below hlo⟩)
  have HSB := Lib.hid (show Bs K w (w.heap.size + 1) u b W0 from ⟨HKP.out _ _ hK hlo, hlo, hx.2, hb.below hlo⟩)
  have HAL := Lib.hid (fun W (h : K W) => alive7B C W h)
  have HGA := Lib.hid (fun W => great8 v a W)
  have HGB := Lib.hid (fun W => great8 u b W)
  have HXA := Lib.hid (fun W (h : Bs K w w.heap.size v a W) => (show W.heap[w.heap.size]? = some (.cells (cellsB v a) 27 (0, 0)) from h.box))
  have HXB := Lib.hid (fun W (h : Bs K w (w.heap.size + 1) u b W) => (show W.heap[w.heap.size + 1]? = some (.cells (cellsB u b) 27 (0, 0)) from h.box))
  have HIA := Lib.hid (show (Try.prog.info? 27).map (·.size) = some (cellsB v a).size from info27)
  have HIB := Lib.hid (show (Try.prog.info? 27).map (·.size) = some (cellsB u b).size from info27)
  have HCA := Lib.hid (fun W (h : Bs K w w.heap.size v a W) => h.box.cells)
  have HCB := Lib.hid (fun W (h : Bs K w (w.heap.size + 1) u b W) => h.box.cells)
  clear hx hlo hK ha hb
  cases hg : greatT a with
  | true =>
    rw [hg] at HGA
    clear hg hwa hwb C
    obtain ⟨ca, hca⟩ : ∃ c, cellsB v a = c := ⟨_, rfl⟩
    obtain ⟨cb, hcb⟩ : ∃ c, cellsB u b = c := ⟨_, rfl⟩
    rw [hca] at hW0 HGA HXA HIA ⊢
    rw [hcb] at hW0 HGB HXB HIB ⊢
    clear hca hcb HCA HCB
    go_enter Try.func3, Try.ntmps3
    go_wp2_with (first | (go_at_call 7; refine (HAL.out _ HSA.out.k).mono ?_; rintro e w1 ⟨rfl, hb1⟩; have HSA1 := Lib.hid (HSA.out.below HKP.out hb1); have HSB1 := Lib.hid (HSB.out.below HKP.out hb1); clear hb1 HSA HSB) | ((with_reducible refine atLoad (ty := 27) (x := .tmp 2) rfl ?_); refine wpList_load_row rfl 27 (.tmp 2) rfl w.heap.size rfl 27 ca (0, 0) _ (HXA.out _ HSA1.out) Try.underlying27 rfl HIA.out ?_) | (go_at_call 8; refine (HGA.out _).mono ?_; rintro e w2 ⟨rfl, hb2⟩; have HSA2 := Lib.hid (HSA1.out.below HKP.out hb2); have HSB2 := Lib.hid (HSB1.out.below HKP.out hb2); clear hb2))
    go_ret
    exact ⟨rfl, HSA2.out.lo⟩
  | false =>
    have ka := ok_of_great hg hwa
    rw [hg] at HGA
    clear hg
    cases hg : greatT b with
    | true =>
      rw [hg] at HGB
      clear hg hwa hwb C ka
      obtain ⟨ca, hca⟩ : ∃ c, cellsB v a = c := ⟨_, rfl⟩
      obtain ⟨cb, hcb⟩ : ∃ c, cellsB u b = c := ⟨_, rfl⟩
      rw [hca] at hW0 HGA HXA HIA ⊢
      rw [hcb] at hW0 HGB HXB HIB ⊢
      clear hca hcb HCA HCB
      go_enter Try.func3, Try.ntmps3
      go_wp2_with (first | (go_at_call 7; refine (HAL.out _ HSA.out.k).mono ?_; rintro e w1 ⟨rfl, hb1⟩; have HSA1 := Lib.hid (HSA.out.below HKP.out hb1); have HSB1 := Lib.hid (HSB.out.below HKP.out hb1); clear hb1 HSA HSB) | ((with_reducible refine atLoad (ty := 27) (x := .tmp 3) rfl ?_); refine wpList_load_rowG (by rfl) 27 (.tmp 3) rfl (w.heap.size + 1) rfl 27 cb (0, 0) _ (HXB.out _ HSB2.out) Try.underlying27 rfl HIB.out ?_) | ((with_reducible refine atLoad (ty := 27) (x := .tmp 2) rfl ?_); refine wpList_load_row rfl 27 (.tmp 2) rfl w.heap.size rfl 27 ca (0, 0) _ (HXA.out _ HSA1.out) Try.underlying27 rfl HIA.out ?_) | (go_at_call 8; refine (HGB.out w2).mono ?_; rintro e w3 ⟨rfl, hb3⟩; have HSA3 := Lib.hid (HSA2.out.below HKP.out hb3); have HSB3 := Lib.hid (HSB2.out.below HKP.out hb3); clear hb3) | (go_at_call 8; refine (HGA.out _).mono ?_; rintro e w2 ⟨rfl, hb2⟩; have HSA2 := Lib.hid (HSA1.out.below HKP.out hb2); have HSB2 := Lib.hid (HSB1.out.below HKP.out hb2); clear hb2))
      go_ret
      exact ⟨rfl, HSA3.out.lo⟩
    | false =>
      have kb := ok_of_great hg hwb
      rw [hg] at HGB
      clear hg hwa hwb
      have ka4 : BookOk 400 a := ka.mono (by omega)
      have kb4 : BookOk 400 b := kb.mono (by omega)
      have ka1 : BookOk 1000 a := ka.mono (by omega)
      have kb1 : BookOk 1000 b := kb.mono (by omega)
      have HM := Lib.hid (fun W (h : Bs K w w.heap.size v a W) => C.may v a W h.k h.bin ka4)
      have RM := Lib.hid (fun W (h : Bs K w w.heap.size v a W) => may10 v a W h.bin ka1)
      have HE := Lib.hid (fun W (h : Bs K w w.heap.size v a W) (h2 : Bs K w (w.heap.size + 1) u b W) => C.same v u a b W h.k h.bin h2.bin ka4 kb4)
      have RE := Lib.hid (fun W (h : Bs K w w.heap.size v a W) (h2 : Bs K w (w.heap.size + 1) u b W) => same12 v u a b W h.bin h2.bin ka1 kb1)
      have HQ := Lib.hid (fun W (h : Bs K w w.heap.size v a W) => C.same v v a a W h.k h.bin h.bin ka4 ka4)
      have HP := Lib.hid (fun W (h : Bs K w w.heap.size v a W) => C.copy v a W h.k h.bin ka4)
      have RC := Lib.hid (fun W v' (h : Bs K w w.heap.size v a W) (h2 : BookIn W v' a) => same12 v' v a a W h2 h.bin ka1 ka1)
      rw [sameT_refl] at HQ RC
      have RC2 := Lib.hid (show ∀ W v', Bs K w w.heap.size v a W → BookIn W v' a → Calls Try.prog 12 #[.agg (cellsB v' a), .agg #[.slice v.h a.hs.length v.ch, .slice v.s a.ss.length v.cs, .slice v.o a.os.length v.co, .slice v.r a.rs.length v.cr, .int .i64 a.co]] W fun e w' => e = .returned (.bool true) ∧ Below W.heap.size W w' from RC.out)
      have HM2 := Lib.hid HM.out
      have RM2 := Lib.hid RM.out
      have HQ2 := Lib.hid HQ.out
      have HP2 := Lib.hid HP.out
      have HE2 := Lib.hid HE.out
      have RE2 := Lib.hid RE.out
      unfold cellsB at HM2 RM2 HE2 RE2 HQ2 HP2
      generalize mayT a = m1 at *
      generalize sameT a b = m2 at *
      obtain ⟨ca, hca⟩ : ∃ c, cellsB v a = c := ⟨_, rfl⟩
      obtain ⟨cb, hcb⟩ : ∃ c, cellsB u b = c := ⟨_, rfl⟩
      rw [hca] at hW0 HGA HXA HIA ⊢
      rw [hcb] at hW0 HGB HXB HIB ⊢
      clear hca hcb HM RM HE RE HQ HP RC C ka kb ka4 kb4 ka1 kb1
      go_enter Try.func3, Try.ntmps3
      go_upto_region 5 with (first | (go_at_call 7; refine (HAL.out _ HSA.out.k).mono ?_; rintro e w1 ⟨rfl, hb1⟩; have HSA1 := Lib.hid (HSA.out.below HKP.out hb1); have HSB1 := Lib.hid (HSB.out.below HKP.out hb1); clear hb1 HSA HSB) | ((with_reducible refine atLoad (ty := 27) (x := .tmp 3) rfl ?_); refine wpList_load_rowG (by rfl) 27 (.tmp 3) rfl (w.heap.size + 1) rfl 27 cb (0, 0) _ (HXB.out _ HSB2.out) Try.underlying27 rfl HIB.out ?_) | ((with_reducible refine atLoad (ty := 27) (x := .tmp 2) rfl ?_); refine wpList_load_row rfl 27 (.tmp 2) rfl w.heap.size rfl 27 ca (0, 0) _ (HXA.out _ HSA1.out) Try.underlying27 rfl HIA.out ?_) | (go_at_call 8; refine (HGB.out w2).mono ?_; rintro e w3 ⟨rfl, hb3⟩; have HSA3 := Lib.hid (HSA2.out.below HKP.out hb3); have HSB3 := Lib.hid (HSB2.out.below HKP.out hb3); clear hb3) | (go_at_call 8; refine (HGA.out _).mono ?_; rintro e w2 ⟨rfl, hb2⟩; have HSA2 := Lib.hid (HSA1.out.below HKP.out hb2); have HSB2 := Lib.hid (HSB1.out.below HKP.out hb2); clear hb2))
      refine at_world (Φ := fun W => Bs K w w.heap.size v a W ∧ Bs K w (w.heap.size + 1) u b W) ⟨HSA3.out, HSB3.out⟩ ?_
      clear HSA3 HSB3 HSA2 HSB2 HSA1 HSB1 HGA HGB HAL hW0
      rintro W5 ⟨hsa, hsb⟩
      have HA := Lib.hid hsa
      have HB := Lib.hid hsb
      clear hsa hsb
      have HAd := Lib.hid (HA.out.below HKP.out (below_drews 1))
      have HBd := Lib.hid (HB.out.below HKP.out (below_drews 1))
      refine wp_region_held_drew (S := fun W => Bs K w w.heap.size v a W ∧ Bs K w (w.heap.size + 1) u b W) (by kernel_rfl) (⟨HAd.out, HBd.out⟩) (fun hS => ?_)
      refine wpAnyH_take (i := 0) (v := .agg #[.slice v.h a.hs.length v.ch, .slice v.s a.ss.length v.cs, .slice v.o a.os.length v.co, .slice v.r a.rs.length v.cr, .int .i64 a.co]) rfl (by kernel_rfl) (by kernel_rfl) (by kernel_rfl) (fun _ _ _ h => h) (Or.inl ⟨by simp [Region.wanted], fun W hW => by obtain ⟨k0, k1, k2, k3, k4⟩ := HCA.out W hW.1; go_simp⟩) hS ?_
      simp only [List.getElem_toArray, List.getElem_cons_zero, Act.put, List.setIfInBounds_toArray, List.set_cons_zero, List.set_cons_succ]
      refine wpAnyH_take (i := 2) (v := .agg #[.slice v.h a.hs.length v.ch, .slice v.s a.ss.length v.cs, .slice v.o a.os.length v.co, .slice v.r a.rs.length v.cr, .int .i64 a.co]) rfl (by kernel_rfl) (by kernel_rfl) (by kernel_rfl) (fun _ _ _ h => h) (Or.inl ⟨by simp [Region.wanted], fun W hW => by obtain ⟨k0, k1, k2, k3, k4⟩ := HCA.out W hW.1; go_simp⟩) hS ?_
      simp only [List.getElem_toArray, List.getElem_cons_zero, List.getElem_cons_succ, Act.put, List.setIfInBounds_toArray, List.set_cons_zero, List.set_cons_succ]
      refine wpAnyH_ready (rs := [1]) (by kernel_rfl) (by simp) ?_
      refine AllReadyH.cons rfl (fun K1 hK1 => ?_) AllReadyH.nil
      refine wanted_go rfl ?_
      simp only [List.getElem_toArray, List.getElem_cons_zero, List.getElem_cons_succ]
      go_wp2_with (go_at_call 9; refine (HM2.out _ hS.1).mono ?_; rintro e y1 ⟨rfl, hy1⟩)
      refine hK1.out _ _ (⟨hS.1.below HKP.out hy1, hS.2.below HKP.out hy1⟩) (fun hS1 => ?_)
      refine wpAnyH_ready (rs := [3]) (by kernel_rfl) (by simp) ?_
      refine AllReadyH.cons rfl (fun K2 hK2 => ?_) AllReadyH.nil
      refine wanted_go rfl ?_
      simp only [List.getElem_toArray, List.getElem_cons_zero, List.getElem_cons_succ]
      go_wp2_with (go_at_call 10; refine (RM2.out _ hS1.1).mono ?_; rintro e y3 ⟨rfl, hy3⟩)
      refine hK2.out _ _ (⟨hS1.1.below HKP.out hy3, hS1.2.below HKP.out hy3⟩) (fun hS2 => ?_)
      refine wpAnyH_take (i := 4) (v := .bool true) rfl (by kernel_rfl) (by kernel_rfl) (by kernel_rfl) (fun _ _ _ h => h) (Or.inl ⟨by simp [Region.wanted], fun W _ => by go_simp⟩) hS2 ?_
      simp only [List.getElem_toArray, List.getElem_cons_zero, List.getElem_cons_succ, Act.put, List.setIfInBounds_toArray, List.set_cons_zero, List.set_cons_succ]
      refine wpAnyH_take (i := 5) (v := .bool true) rfl (by kernel_rfl) (by kernel_rfl) (by kernel_rfl) (fun _ _ _ h => h) (Or.inl ⟨by simp [Region.wanted], fun W _ => by go_simp⟩) hS2 ?_
      simp only [List.getElem_toArray, List.getElem_cons_zero, List.getElem_cons_succ, Act.put, List.setIfInBounds_toArray, List.set_cons_zero, List.set_cons_succ]
      refine wpAnyH_take (i := 6) (v := .agg #[.slice v.h a.hs.length v.ch, .slice v.s a.ss.length v.cs, .slice v.o a.os.length v.co, .slice v.r a.rs.length v.cr, .int .i64 a.co]) rfl (by kernel_rfl) (by kernel_rfl) (by kernel_rfl) (fun _ _ _ h => h) (Or.inl ⟨by rfl, fun W hW => by obtain ⟨k0, k1, k2, k3, k4⟩ := HCA.out W hW.1; go_simp⟩) hS2 ?_
      simp only [List.getElem_toArray, List.getElem_cons_zero, List.getElem_cons_succ, Act.put, List.setIfInBounds_toArray, List.set_cons_zero, List.set_cons_succ]
      refine wpAnyH_take (i := 7) (v := .agg #[.slice u.h b.hs.length u.ch, .slice u.s b.ss.length u.cs, .slice u.o b.os.length u.co, .slice u.r b.rs.length u.cr, .int .i64 b.co]) rfl (by kernel_rfl) (by kernel_rfl) (by kernel_rfl) (fun _ _ _ h => h) (Or.inl ⟨by rfl, fun W hW => by obtain ⟨k0, k1, k2, k3, k4⟩ := HCB.out W hW.2; go_simp⟩) hS2 ?_
      simp only [List.getElem_toArray, List.getElem_cons_zero, List.getElem_cons_succ, Act.put, List.setIfInBounds_toArray, List.set_cons_zero, List.set_cons_succ]
      refine wpAnyH_take (i := 9) (v := .agg #[.slice v.h a.hs.length v.ch, .slice v.s a.ss.length v.cs, .slice v.o a.os.length v.co, .slice v.r a.rs.length v.cr, .int .i64 a.co]) rfl (by kernel_rfl) (by kernel_rfl) (by kernel_rfl) (fun _ _ _ h => h) (Or.inl ⟨by rfl, fun W hW => by obtain ⟨k0, k1, k2, k3, k4⟩ := HCA.out W hW.1; go_simp⟩) hS2 ?_
      simp only [List.getElem_toArray, List.getElem_cons_zero, List.getElem_cons_succ, Act.put, List.setIfInBounds_toArray, List.set_cons_zero, List.set_cons_succ]
      refine wpAnyH_take (i := 10) (v := .agg #[.slice u.h b.hs.length u.ch, .slice u.s b.ss.length u.cs, .slice u.o b.os.length u.co, .slice u.r b.rs.length u.cr, .int .i64 b.co]) rfl (by kernel_rfl) (by kernel_rfl) (by kernel_rfl) (fun _ _ _ h => h) (Or.inl ⟨by rfl, fun W hW => by obtain ⟨k0, k1, k2, k3, k4⟩ := HCB.out W hW.2; go_simp⟩) hS2 ?_
      simp only [List.getElem_toArray, List.getElem_cons_zero, List.getElem_cons_succ, Act.put, List.setIfInBounds_toArray, List.set_cons_zero, List.set_cons_succ]
      refine wpAnyH_ready (rs := [8]) (by kernel_rfl) (by simp) ?_
      refine AllReadyH.cons rfl (fun K3 hK3 => ?_) AllReadyH.nil
      rw [if_pos (by rfl)]
      simp only [List.getElem_toArray, List.getElem_cons_zero, List.getElem_cons_succ]
      go_wp2_with (go_at_call 11; refine (HE2.out _ hS2.1 hS2.2).mono ?_; rintro e y8 ⟨rfl, hy8⟩)
      refine hK3.out _ _ (⟨hS2.1.below HKP.out hy8, hS2.2.below HKP.out hy8⟩) (fun hS3 => ?_)
      refine wpAnyH_ready (rs := [11]) (by kernel_rfl) (by simp) ?_
      refine AllReadyH.cons rfl (fun K4 hK4 => ?_) AllReadyH.nil
      rw [if_pos (by rfl)]
      simp only [List.getElem_toArray, List.getElem_cons_zero, List.getElem_cons_succ]
      go_wp2_with (go_at_call 12; refine (RE2.out _ hS3.1 hS3.2).mono ?_; rintro e y11 ⟨rfl, hy11⟩)
      refine hK4.out _ _ (⟨hS3.1.below HKP.out hy11, hS3.2.below HKP.out hy11⟩) (fun hS4 => ?_)
      refine wpAnyH_take (i := 12) (v := .bool true) rfl (by kernel_rfl) (by kernel_rfl) (by kernel_rfl) (fun _ _ _ h => h) (Or.inl ⟨by rfl, fun W _ => by go_simp⟩) hS4 ?_
      simp only [List.getElem_toArray, List.getElem_cons_zero, List.getElem_cons_succ, Act.put, List.setIfInBounds_toArray, List.set_cons_zero, List.set_cons_succ]
      refine wpAnyH_take (i := 13) (v := .bool true) rfl (by kernel_rfl) (by kernel_rfl) (by kernel_rfl) (fun _ _ _ h => h) (Or.inl ⟨by simp [Region.wanted], fun W _ => by go_simp⟩) hS4 ?_
      simp only [List.getElem_toArray, List.getElem_cons_zero, List.getElem_cons_succ, Act.put, List.setIfInBounds_toArray, List.set_cons_zero, List.set_cons_succ]
      refine wpAnyH_take (i := 14) (v := .bool true) rfl (by kernel_rfl) (by kernel_rfl) (by kernel_rfl) (fun _ _ _ h => h) (Or.inl ⟨by simp [Region.wanted], fun W _ => by go_simp⟩) hS4 ?_
      simp only [List.getElem_toArray, List.getElem_cons_zero, List.getElem_cons_succ, Act.put, List.setIfInBounds_toArray, List.set_cons_zero, List.set_cons_succ]
      refine wpAnyH_take (i := 15) (v := .agg #[.slice v.h a.hs.length v.ch, .slice v.s a.ss.length v.cs, .slice v.o a.os.length v.co, .slice v.r a.rs.length v.cr, .int .i64 a.co]) rfl (by kernel_rfl) (by kernel_rfl) (by kernel_rfl) (fun _ _ _ h => h) (Or.inl ⟨by rfl, fun W hW => by obtain ⟨k0, k1, k2, k3, k4⟩ := HCA.out W hW.1; go_simp⟩) hS4 ?_
      simp only [List.getElem_toArray, List.getElem_cons_zero, List.getElem_cons_succ, Act.put, List.setIfInBounds_toArray, List.set_cons_zero, List.set_cons_succ]
      refine wpAnyH_take (i := 16) (v := .agg #[.slice v.h a.hs.length v.ch, .slice v.s a.ss.length v.cs, .slice v.o a.os.length v.co, .slice v.r a.rs.length v.cr, .int .i64 a.co]) rfl (by kernel_rfl) (by kernel_rfl) (by kernel_rfl) (fun _ _ _ h => h) (Or.inl ⟨by rfl, fun W hW => by obtain ⟨k0, k1, k2, k3, k4⟩ := HCA.out W hW.1; go_simp⟩) hS4 ?_
      simp only [List.getElem_toArray, List.getElem_cons_zero, List.getElem_cons_succ, Act.put, List.setIfInBounds_toArray, List.set_cons_zero, List.set_cons_succ]
      refine wpAnyH_ready (rs := [17]) (by kernel_rfl) (by simp) ?_
      refine AllReadyH.cons rfl (fun K5 hK5 => ?_) AllReadyH.nil
      rw [if_pos (by rfl)]
      simp only [List.getElem_toArray, List.getElem_cons_zero, List.getElem_cons_succ]
      go_wp2_with (go_at_call 11; refine (HQ2.out _ hS4.1).mono ?_; rintro e y17 ⟨rfl, hy17⟩)
      refine hK5.out _ _ (⟨hS4.1.below HKP.out hy17, hS4.2.below HKP.out hy17⟩) (fun hS5 => ?_)
      refine wpAnyH_take (i := 18) (v := .bool true) rfl (by kernel_rfl) (by kernel_rfl) (by kernel_rfl) (fun _ _ _ h => h) (Or.inl ⟨by simp [Region.wanted], fun W _ => by go_simp⟩) hS5 ?_
      simp only [List.getElem_toArray, List.getElem_cons_zero, List.getElem_cons_succ, Act.put, List.setIfInBounds_toArray, List.set_cons_zero, List.set_cons_succ]
      refine wpAnyH_take (i := 19) (v := .bool true) rfl (by kernel_rfl) (by kernel_rfl) (by kernel_rfl) (fun _ _ _ h => h) (Or.inl ⟨by simp [Region.wanted], fun W _ => by go_simp⟩) hS5 ?_
      simp only [List.getElem_toArray, List.getElem_cons_zero, List.getElem_cons_succ, Act.put, List.setIfInBounds_toArray, List.set_cons_zero, List.set_cons_succ]
      refine wpAnyH_take (i := 20) (v := .agg #[.slice v.h a.hs.length v.ch, .slice v.s a.ss.length v.cs, .slice v.o a.os.length v.co, .slice v.r a.rs.length v.cr, .int .i64 a.co]) rfl (by kernel_rfl) (by kernel_rfl) (by kernel_rfl) (fun _ _ _ h => h) (Or.inl ⟨by rfl, fun W hW => by obtain ⟨k0, k1, k2, k3, k4⟩ := HCA.out W hW.1; go_simp⟩) hS5 ?_
      simp only [List.getElem_toArray, List.getElem_cons_zero, List.getElem_cons_succ, Act.put, List.setIfInBounds_toArray, List.set_cons_zero, List.set_cons_succ]
      refine wpAnyH_take (i := 22) (v := .agg #[.slice v.h a.hs.length v.ch, .slice v.s a.ss.length v.cs, .slice v.o a.os.length v.co, .slice v.r a.rs.length v.cr, .int .i64 a.co]) rfl (by kernel_rfl) (by kernel_rfl) (by kernel_rfl) (fun _ _ _ h => h) (Or.inl ⟨by rfl, fun W hW => by obtain ⟨k0, k1, k2, k3, k4⟩ := HCA.out W hW.1; go_simp⟩) hS5 ?_
      simp only [List.getElem_toArray, List.getElem_cons_zero, List.getElem_cons_succ, Act.put, List.setIfInBounds_toArray, List.set_cons_zero, List.set_cons_succ]
      refine wpAnyH_ready (rs := [21]) (by kernel_rfl) (by simp) ?_
      refine AllReadyH.cons rfl (fun K6 hK6 => ?_) AllReadyH.nil
      rw [if_pos (by rfl)]
      simp only [List.getElem_toArray, List.getElem_cons_zero, List.getElem_cons_succ]
      go_wp2_with (go_at_call 13; refine (HP2.out _ hS5.1).mono ?_; rintro e y21 ⟨⟨v', rfl, hin, _⟩, hy21⟩)
      refine hK6.out _ _ (⟨hS5.1.below HKP.out hy21, hS5.2.below HKP.out hy21⟩) (fun hS6 => ?_)
      refine wpAnyH_ready (rs := [23]) (by kernel_rfl) (by simp) ?_
      refine AllReadyH.cons rfl (fun K7 hK7 => ?_) AllReadyH.nil
      rw [if_pos (by rfl)]
      simp only [List.getElem_toArray, List.getElem_cons_zero, List.getElem_cons_succ]
      go_wp2_with (go_at_call 12; refine (RC2.out _ v' hS6.1 hin).mono ?_; rintro e y23 ⟨rfl, hy23⟩)
      refine hK7.out _ _ (⟨hS6.1.below HKP.out hy23, hS6.2.below HKP.out hy23⟩) (fun hS7 => ?_)
      refine wpAnyH_take (i := 24) (v := .bool true) rfl (by kernel_rfl) (by kernel_rfl) (by kernel_rfl) (fun _ _ _ h => h) (Or.inl ⟨by simp [Region.wanted], fun W _ => by go_simp⟩) hS7 ?_
      simp only [List.getElem_toArray, List.getElem_cons_zero, List.getElem_cons_succ, Act.put, List.setIfInBounds_toArray, List.set_cons_zero, List.set_cons_succ]
      refine wpAnyH_take (i := 25) (v := .bool true) rfl (by kernel_rfl) (by kernel_rfl) (by kernel_rfl) (fun _ _ _ h => h) (Or.inl ⟨by simp [Region.wanted], fun W _ => by go_simp⟩) hS7 ?_
      simp only [List.getElem_toArray, List.getElem_cons_zero, List.getElem_cons_succ, Act.put, List.setIfInBounds_toArray, List.set_cons_zero, List.set_cons_succ]
      refine wpAnyH_done (by kernel_rfl) ?_ _
      go_wp2
      go_ret
      exact ⟨rfl, hS7.1.lo⟩
end Go.Proofs.Ytofmkbijhmbbcaa
