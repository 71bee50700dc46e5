/- The library's Compare, Or; the comparers by keys: contracts. -/
import Derived.Test.YtmndkbfjmamnfaaBkQMath
import Derived.Test.YtmndkbfjmamnfaaBkSet
namespace Go.Proofs.Ytmndkbfjmamnfaa
open Go.RowKit Base Base2

theorem nan85 (a : Int) (w : World) : Calls Try.prog 95 #[.int .i64 a] w fun e w' => e = .returned (.bool false) ∧ w' = w := by
  go_enter Try.func95, Try.ntmps95
  go_wp2
  go_ret
  simp
theorem compare79 (a b : Int) (w : World) : Calls Try.prog 90 #[.int .i64 a, .int .i64 b] w fun e w' => e = .returned (.int .i64 (cmpI a b)) ∧ w' = w := by
  by_cases h1 : a < b
  · have e : cmpI a b = -1 := by unfold cmpI; rw [if_pos h1]
    rw [e]
    go_enter Try.func90, Try.ntmps90
    go_wp2_with (go_at_call 95; refine (nan85 _ _).mono ?_; rintro e w' ⟨rfl, rfl⟩)
    go_ret
    exact ⟨rfl, rfl⟩
  · by_cases h2 : b < a
    · have e : cmpI a b = 1 := by unfold cmpI; rw [if_neg h1, if_pos h2]
      rw [e]
      go_enter Try.func90, Try.ntmps90
      go_wp2_with (go_at_call 95; refine (nan85 _ _).mono ?_; rintro e w' ⟨rfl, rfl⟩)
      go_ret
      exact ⟨rfl, rfl⟩
    · have e : cmpI a b = 0 := by unfold cmpI; rw [if_neg h1, if_neg h2]
      rw [e]
      go_enter Try.func90, Try.ntmps90
      go_wp2_with (go_at_call 95; refine (nan85 _ _).mono ?_; rintro e w' ⟨rfl, rfl⟩)
      go_ret
      exact ⟨rfl, rfl⟩
set_option maxHeartbeats 4000000 in
theorem or83 (g : Nat) (a b : Int) (w : World) (h0 : w.cell? ⟨g, 0, none⟩ = some (.int .i64 a)) (h1 : w.cell? ⟨g, 1, none⟩ = some (.int .i64 b)) :
    Calls Try.prog 89 #[.slice (some ⟨g, 0, none⟩) 2 2] w fun e w' => e = .returned (.int .i64 (if a = 0 then b else a)) ∧ w' = w := by
  obtain ⟨RES, hR⟩ : ∃ r, (if a = 0 then b else a) = r := ⟨_, rfl⟩
  rw [hR]
  go_enter Try.func89, Try.ntmps89
  go_wp2
  go_loopw [8] (fun vi W => ∃ i : Nat, vi = .int .i64 (i : Int) ∧ i ≤ 2 ∧ (1 ≤ i → a = 0) ∧ (2 ≤ i → b = 0) ∧ W = w) (fun vi _ => 2 - (intOf vi).toNat)
  case atStart => exact ⟨0, rfl, by omega, by omega, by omega, rfl⟩
  case round =>
    obtain ⟨i, rfl, hi, ha, hb, rfl⟩ := hrel
    by_cases e0 : i = 0
    · subst e0
      by_cases hz : a = 0
      · have g : (a == 0) = true := by rw [beq_iff_eq]; exact hz
        have HZ := Lib.hid hz
        clear hz
        go_wp2
        go_roundw
        case rel => exact ⟨1, rfl, by omega, fun _ => HZ.out, fun h => absurd h (by omega), by trivial⟩
        case measure => simp [intOf]
      · have g : (a == 0) = false := by rw [beq_eq_false_iff_ne]; exact hz
        have HR := Lib.hid ((if_neg hz).symm.trans hR)
        clear hz hR
        go_wp2
        go_ret
        exact ⟨ret_int HR.out, rfl⟩
    · by_cases e1 : i = 1
      · subst e1
        have hz := ha (by omega)
        have HR := Lib.hid ((if_pos hz).symm.trans hR)
        have HA := Lib.hid hz
        clear hR ha hz
        by_cases hz : b = 0
        · have g : (b == 0) = true := by rw [beq_iff_eq]; exact hz
          have HZ := Lib.hid hz
          clear hz
          go_wp2
          go_roundw
          case rel => exact ⟨2, rfl, by omega, fun _ => HA.out, fun _ => HZ.out, by trivial⟩
          case measure => simp [intOf]
        · have g : (b == 0) = false := by rw [beq_eq_false_iff_ne]; exact hz
          clear hz
          go_wp2
          go_ret
          exact ⟨ret_int HR.out, rfl⟩
      · have e2 : i = 2 := by omega
        subst e2
        have HR := Lib.hid ((hb (by omega)).symm.trans ((if_pos (ha (by omega))).symm.trans hR))
        clear ha hb hR
        go_wp2
        go_ret
        exact ⟨ret_int HR.out, rfl⟩
set_option maxHeartbeats 4000000 in
theorem byHolder (p q r s id : Int) (w : World) : Calls Try.prog 64 #[.agg #[.int .i64 p, .int .i64 q, .int .i64 r, .int .i64 s], .int .i64 id] w fun e w' => e = .returned (.int .i64 (c1 id [p, q, r, s])) ∧ Below w.heap.size w w' := by
  have e : c1 id [p, q, r, s] = cmpI p id := rfl
  rw [e]
  have hb : Below w.heap.size w (w.alloc (.cells #[.int .i64 p, .int .i64 q, .int .i64 r, .int .i64 s] 45)) := (Below.refl _ w).alloc (Nat.le_refl _) _
  have k0 : (w.alloc (.cells #[.int .i64 p, .int .i64 q, .int .i64 r, .int .i64 s] 45)).cell? ⟨w.heap.size, 0, none⟩ = some (.int .i64 p) := cell_of_row _ _ 0 _ 45 (0, 0) (heap_alloc_new w _)
  go_enter Try.func64, Try.ntmps64
  go_wp2_with (go_at_call 90; refine (compare79 _ _ _).mono ?_; rintro e w' ⟨rfl, rfl⟩)
  go_ret
  exact ⟨rfl, hb⟩
set_option maxHeartbeats 4000000 in
theorem byOpen (p q r s t z id : Int) (w : World) : Calls Try.prog 69 #[.agg #[.int .i64 p, .int .i64 q, .int .i64 r, .int .i64 s, .int .i64 t, .int .i64 z], .int .i64 id] w fun e w' => e = .returned (.int .i64 (c1 id [p, q, r, s, t, z])) ∧ Below w.heap.size w w' := by
  have e : c1 id [p, q, r, s, t, z] = cmpI p id := rfl
  rw [e]
  have hb : Below w.heap.size w (w.alloc (.cells #[.int .i64 p, .int .i64 q, .int .i64 r, .int .i64 s, .int .i64 t, .int .i64 z] 37)) := (Below.refl _ w).alloc (Nat.le_refl _) _
  have k0 : (w.alloc (.cells #[.int .i64 p, .int .i64 q, .int .i64 r, .int .i64 s, .int .i64 t, .int .i64 z] 37)).cell? ⟨w.heap.size, 0, none⟩ = some (.int .i64 p) := cell_of_row _ _ 0 _ 37 (0, 0) (heap_alloc_new w _)
  go_enter Try.func69, Try.ntmps69
  go_wp2_with (go_at_call 90; refine (compare79 _ _ _).mono ?_; rintro e w' ⟨rfl, rfl⟩)
  go_ret
  exact ⟨rfl, hb⟩
set_option maxHeartbeats 4000000 in
theorem byRate (p q id : Int) (w : World) : Calls Try.prog 72 #[.agg #[.int .i64 p, .int .i64 q], .int .i64 id] w fun e w' => e = .returned (.int .i64 (c1 id [p, q])) ∧ Below w.heap.size w w' := by
  have e : c1 id [p, q] = cmpI p id := rfl
  rw [e]
  have hb : Below w.heap.size w (w.alloc (.cells #[.int .i64 p, .int .i64 q] 67)) := (Below.refl _ w).alloc (Nat.le_refl _) _
  have k0 : (w.alloc (.cells #[.int .i64 p, .int .i64 q] 67)).cell? ⟨w.heap.size, 0, none⟩ = some (.int .i64 p) := cell_of_row _ _ 0 _ 67 (0, 0) (heap_alloc_new w _)
  go_enter Try.func72, Try.ntmps72
  go_wp2_with (go_at_call 90; refine (compare79 _ _ _).mono ?_; rintro e w' ⟨rfl, rfl⟩)
  go_ret
  exact ⟨rfl, hb⟩
set_option maxRecDepth 100000 in
set_option maxHeartbeats 8000000 in
theorem byStakeC (p q r id s : Int) (w : World) : Calls Try.prog 61 #[.agg #[.int .i64 p, .int .i64 q, .int .i64 r], .agg #[.int .i64 id, .int .i64 s]] w fun e w' => e = .returned (.int .i64 (c2 id s [p, q, r])) ∧ Below w.heap.size w w' := by
  obtain ⟨RES, hR⟩ : ∃ x, c2 id s [p, q, r] = x := ⟨_, rfl⟩
  have hR2 : (if cmpI p id = 0 then cmpI q s else cmpI p id) = RES := hR
  rw [hR]
  clear hR
  obtain ⟨W0, hW0⟩ : ∃ W, (w.alloc (.cells #[.int .i64 p, .int .i64 q, .int .i64 r] 43)).alloc (.cells #[.int .i64 id, .int .i64 s] 92) = W := ⟨_, rfl⟩
  have hlo : Below w.heap.size w W0 := by rw [← hW0]; exact ((Below.refl _ w).alloc (Nat.le_refl _) _).alloc (by simp) _
  have hx : W0.heap[w.heap.size]? = some (.cells #[.int .i64 p, .int .i64 q, .int .i64 r] 43) ∧ W0.heap[w.heap.size + 1]? = some (.cells #[.int .i64 id, .int .i64 s] 92) := by rw [← hW0]; exact two_new
  have hsz : W0.heap.size = w.heap.size + 2 := by rw [← hW0]; simp
  have HC := Lib.hid (show ∀ W, Below (w.heap.size + 2) W0 W → W.cell? ⟨w.heap.size, 0, none⟩ = some (.int .i64 p) ∧ W.cell? ⟨w.heap.size, 1, none⟩ = some (.int .i64 q) ∧ W.cell? ⟨w.heap.size + 1, 0, none⟩ = some (.int .i64 id) ∧ W.cell? ⟨w.heap.size + 1, 1, none⟩ = some (.int .i64 s) from fun W h =>
    ⟨cell_of_row _ _ 0 _ 43 (0, 0) ((h.block _ (by omega)).trans hx.1), cell_of_row _ _ 1 _ 43 (0, 0) ((h.block _ (by omega)).trans hx.1), cell_of_row _ _ 0 _ 92 (0, 0) ((h.block _ (by omega)).trans hx.2), cell_of_row _ _ 1 _ 92 (0, 0) ((h.block _ (by omega)).trans hx.2)⟩)
  have HLO := Lib.hid (show ∀ W, Below (w.heap.size + 2) W0 W → Below w.heap.size w W from fun W h => hlo.trans (h.mono (by omega)))
  have HSZ := Lib.hid (show ∀ W, Below (w.heap.size + 2) W0 W → w.heap.size + 2 ≤ W.heap.size from fun W h => by have := h.size; omega)
  clear hx hlo hsz
  obtain ⟨X1, hX1⟩ : ∃ z, cmpI p id = z := ⟨_, rfl⟩
  obtain ⟨X2, hX2⟩ : ∃ z, cmpI q s = z := ⟨_, rfl⟩
  rw [hX1, hX2] at hR2
  have HP1 := Lib.hid (fun W => compare79 p id W)
  have HP2 := Lib.hid (fun W => compare79 q s W)
  rw [hX1] at HP1
  rw [hX2] at HP2
  have HRR := Lib.hid hR2
  clear hX1 hX2 hR2
  go_enter Try.func61, Try.ntmps61
  go_wp2
  clear hW0
  refine wp_region_held_drew (S := fun W => Below (w.heap.size + 2) W0 W) (by kernel_rfl) (below_drewN' (Below.refl _ _) 1) (fun hS => ?_)
  refine wpAnyH_take (i := 0) (v := .pointer (some ⟨w.heap.size, 0, none⟩)) rfl (by kernel_rfl) (by kernel_rfl) (by kernel_rfl) (fun _ _ _ h => h) (Or.inl ⟨by simp [Region.wanted], fun W _ => by go_simp⟩) hS ?_
  simp only [List.getElem_toArray, List.getElem_cons_zero, Act.put, List.setIfInBounds_toArray, List.set_cons_zero, List.set_cons_succ]
  refine wpAnyH_take (i := 1) (v := .int .i64 p) rfl (by kernel_rfl) (by kernel_rfl) (by kernel_rfl) (fun _ _ _ h => h) (Or.inl ⟨by simp [Region.wanted], fun W hW => by obtain ⟨c1, c2, c3, c4⟩ := HC.out W hW; go_simp⟩) hS ?_
  simp only [List.getElem_toArray, List.getElem_cons_zero, List.getElem_cons_succ, Act.put, List.setIfInBounds_toArray, List.set_cons_zero, List.set_cons_succ]
  refine wpAnyH_take (i := 2) (v := .pointer (some ⟨w.heap.size + 1, 0, none⟩)) rfl (by kernel_rfl) (by kernel_rfl) (by kernel_rfl) (fun _ _ _ h => h) (Or.inl ⟨by simp [Region.wanted], fun W _ => by go_simp⟩) hS ?_
  simp only [List.getElem_toArray, List.getElem_cons_zero, List.getElem_cons_succ, Act.put, List.setIfInBounds_toArray, List.set_cons_zero, List.set_cons_succ]
  refine wpAnyH_take (i := 3) (v := .int .i64 id) rfl (by kernel_rfl) (by kernel_rfl) (by kernel_rfl) (fun _ _ _ h => h) (Or.inl ⟨by simp [Region.wanted], fun W hW => by obtain ⟨c1, c2, c3, c4⟩ := HC.out W hW; go_simp⟩) hS ?_
  simp only [List.getElem_toArray, List.getElem_cons_zero, List.getElem_cons_succ, Act.put, List.setIfInBounds_toArray, List.set_cons_zero, List.set_cons_succ]
  refine wpAnyH_take (i := 5) (v := .pointer (some ⟨w.heap.size, 1, none⟩)) rfl (by kernel_rfl) (by kernel_rfl) (by kernel_rfl) (fun _ _ _ h => h) (Or.inl ⟨by simp [Region.wanted], fun W _ => by go_simp⟩) hS ?_
  simp only [List.getElem_toArray, List.getElem_cons_zero, List.getElem_cons_succ, Act.put, List.setIfInBounds_toArray, List.set_cons_zero, List.set_cons_succ]
  refine wpAnyH_take (i := 6) (v := .int .i64 q) rfl (by kernel_rfl) (by kernel_rfl) (by kernel_rfl) (fun _ _ _ h => h) (Or.inl ⟨by simp [Region.wanted], fun W hW => by obtain ⟨c1, c2, c3, c4⟩ := HC.out W hW; go_simp⟩) hS ?_
  simp only [List.getElem_toArray, List.getElem_cons_zero, List.getElem_cons_succ, Act.put, List.setIfInBounds_toArray, List.set_cons_zero, List.set_cons_succ]
  refine wpAnyH_take (i := 7) (v := .pointer (some ⟨w.heap.size + 1, 1, none⟩)) rfl (by kernel_rfl) (by kernel_rfl) (by kernel_rfl) (fun _ _ _ h => h) (Or.inl ⟨by simp [Region.wanted], fun W _ => by go_simp⟩) hS ?_
  simp only [List.getElem_toArray, List.getElem_cons_zero, List.getElem_cons_succ, Act.put, List.setIfInBounds_toArray, List.set_cons_zero, List.set_cons_succ]
  refine wpAnyH_take (i := 8) (v := .int .i64 s) rfl (by kernel_rfl) (by kernel_rfl) (by kernel_rfl) (fun _ _ _ h => h) (Or.inl ⟨by simp [Region.wanted], fun W hW => by obtain ⟨c1, c2, c3, c4⟩ := HC.out W hW; go_simp⟩) hS ?_
  simp only [List.getElem_toArray, List.getElem_cons_zero, List.getElem_cons_succ, Act.put, List.setIfInBounds_toArray, List.set_cons_zero, List.set_cons_succ]
  refine wpAnyH_ready (rs := [4]) (by kernel_rfl) (by simp) ?_
  refine AllReadyH.cons rfl (fun K4 hK4 => ?_) AllReadyH.nil
  refine wanted_go rfl ?_
  simp only [List.getElem_toArray, List.getElem_cons_zero, List.getElem_cons_succ]
  go_wp2_with (go_at_call 90; refine (HP1.out _).mono ?_; rintro e y ⟨rfl, rfl⟩)
  refine hK4.out _ _ hS (fun hS1 => ?_)
  refine wpAnyH_ready (rs := [9]) (by kernel_rfl) (by simp) ?_
  refine AllReadyH.cons rfl (fun K9 hK9 => ?_) AllReadyH.nil
  refine wanted_go rfl ?_
  simp only [List.getElem_toArray, List.getElem_cons_zero, List.getElem_cons_succ]
  go_wp2_with (go_at_call 90; refine (HP2.out _).mono ?_; rintro e y ⟨rfl, rfl⟩)
  refine hK9.out _ _ hS1 (fun hS2 => ?_)
  refine wpAnyH_ready (rs := [10]) (by kernel_rfl) (by simp) ?_
  refine AllReadyH.cons rfl (fun K10 hK10 => ?_) AllReadyH.nil
  refine wanted_go rfl ?_
  simp only [List.getElem_toArray, List.getElem_cons_zero, List.getElem_cons_succ]
  go_wp2
  refine hK10.out _ _ (hS2.alloc (HSZ.out _ hS2) _) (fun hS3 => ?_)
  refine wpAnyH_ready (rs := [11]) (by kernel_rfl) (by simp) ?_
  refine AllReadyH.cons rfl (fun K11 hK11 => ?_) AllReadyH.nil
  refine wanted_go rfl ?_
  simp only [List.getElem_toArray, List.getElem_cons_zero, List.getElem_cons_succ]
  go_wp2_with (go_at_call 89; refine (or83 _ X1 X2 _ (cell_of_row _ _ 0 _ 3 (0, 0) (heap_alloc_new _ _)) (cell_of_row _ _ 1 _ 3 (0, 0) (heap_alloc_new _ _))).mono ?_; rw [HRR.out]; rintro e y ⟨rfl, rfl⟩)
  refine hK11.out _ _ hS3 (fun _ => ?_)
  refine wpAnyH_take (i := 12) (v := .int .i64 RES) rfl (by kernel_rfl) (by kernel_rfl) (by kernel_rfl) (fun _ _ _ h => h) (Or.inl ⟨by simp [Region.wanted], fun W _ => by go_simp⟩) hS3 ?_
  simp only [List.getElem_toArray, List.getElem_cons_zero, List.getElem_cons_succ, Act.put, List.setIfInBounds_toArray, List.set_cons_zero, List.set_cons_succ]
  refine wpAnyH_done (by kernel_rfl) ?_ _
  go_wp2
  go_ret
  exact ⟨rfl, HLO.out _ hS3⟩
end Go.Proofs.Ytmndkbfjmamnfaa
