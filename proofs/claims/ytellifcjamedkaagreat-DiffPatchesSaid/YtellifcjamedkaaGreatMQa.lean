/- The library's Compare, Or; the comparers by keys: contracts. The library's search in a list; the program's place: contracts. The program's find: contracts. -/
import Derived.Test.YtellifcjamedkaaGreatMBm
import Derived.Test.YtellifcjamedkaaGreatMRe
namespace Go.Proofs.YtellifcjamedkaaGreat
open Go.RowKit Base Base2
open List renaming getElem_toArray → lgT, getElem_cons_zero → lgZ, getElem_cons_succ → lgS, setIfInBounds_toArray → lsT, set_cons_zero → lsZ, set_cons_succ → lsS
theorem nan85 (a : Int) (w : World) : Calls Tryz.prog 99 #[.int .i64 a] w fun e w' => e = .returned (.bool false) ∧ w' = w := by
  go_enter Tryz.func99, Tryz.ntmps99
  go_wp2
  go_ret
  simp
theorem compare79 (a b : Int) (w : World) : Calls Tryz.prog 95 #[.int .i64 a, .int .i64 b] w fun e w' => e = .returned (.int .i64 (cmpI a b)) ∧ w' = w := by
  by_cases h1 : a < b
  · have e : cmpI a b = -1 := by unfold cmpI; rw [if_pos h1]
    rw [e]
    go_enter Tryz.func95, Tryz.ntmps95
    go_wp2_with (go_at_call 99; refine (nan85 _ _).mono ?_; rintro e w' ⟨rfl, rfl⟩)
    go_ret
    exact ⟨rfl, rfl⟩
  · by_cases h2 : b < a
    · have e : cmpI a b = 1 := by unfold cmpI; rw [if_neg h1, if_pos h2]
      rw [e]
      go_enter Tryz.func95, Tryz.ntmps95
      go_wp2_with (go_at_call 99; refine (nan85 _ _).mono ?_; rintro e w' ⟨rfl, rfl⟩)
      go_ret
      exact ⟨rfl, rfl⟩
    · have e : cmpI a b = 0 := by unfold cmpI; rw [if_neg h1, if_neg h2]
      rw [e]
      go_enter Tryz.func95, Tryz.ntmps95
      go_wp2_with (go_at_call 99; refine (nan85 _ _).mono ?_; rintro e w' ⟨rfl, rfl⟩)
      go_ret
      exact ⟨rfl, rfl⟩
set_option maxHeartbeats 4000000 in
theorem or83 (g : Nat) (a b : Int) (w : World) (h0 : w.cell? ⟨g, 0, none⟩ = some (.int .i64 a)) (h1 : w.cell? ⟨g, 1, none⟩ = some (.int .i64 b)) :
    Calls Tryz.prog 96 #[.slice (some ⟨g, 0, none⟩) 2 2] w fun e w' => e = .returned (.int .i64 (if a = 0 then b else a)) ∧ w' = w := by
  obtain ⟨RES, hR⟩ : ∃ r, (if a = 0 then b else a) = r := ⟨_, rfl⟩
  rw [hR]
  go_enter Tryz.func96, Tryz.ntmps96
  go_wp2
  go_loopw [8] (fun vi W => ∃ i : Nat, vi = .int .i64 (i : Int) ∧ i ≤ 2 ∧ (1 ≤ i → a = 0) ∧ (2 ≤ i → b = 0) ∧ W = w) (fun vi _ => 2 - (intOf vi).toNat)
  case atStart => exact ⟨0, rfl, by omega, by omega, by omega, rfl⟩
  case round =>
    obtain ⟨i, rfl, hi, ha, hb, rfl⟩ := hrel
    by_cases e0 : i = 0
    · subst e0
      by_cases hz : a = 0
      · have g : (a == 0) = true := by rw [beq_iff_eq]; exact hz
        have HZ := Lib.hid hz
        clear hz
        go_wp2
        go_roundw
        case rel => exact ⟨1, rfl, by omega, fun _ => HZ.out, fun h => absurd h (by omega), by trivial⟩
        case measure => simp [intOf]
      · have g : (a == 0) = false := by rw [beq_eq_false_iff_ne]; exact hz
        have HR := Lib.hid ((if_neg hz).symm.trans hR)
        clear hz hR
        go_wp2
        go_ret
        exact ⟨ret_int HR.out, rfl⟩
    · by_cases e1 : i = 1
      · subst e1
        have hz := ha (by omega)
        have HR := Lib.hid ((if_pos hz).symm.trans hR)
        have HA := Lib.hid hz
        clear hR ha hz
        by_cases hz : b = 0
        · have g : (b == 0) = true := by rw [beq_iff_eq]; exact hz
          have HZ := Lib.hid hz
          clear hz
          go_wp2
          go_roundw
          case rel => exact ⟨2, rfl, by omega, fun _ => HA.out, fun _ => HZ.out, by trivial⟩
          case measure => simp [intOf]
        · have g : (b == 0) = false := by rw [beq_eq_false_iff_ne]; exact hz
          clear hz
          go_wp2
          go_ret
          exact ⟨ret_int HR.out, rfl⟩
      · have e2 : i = 2 := by omega
        subst e2
        have HR := Lib.hid ((hb (by omega)).symm.trans ((if_pos (ha (by omega))).symm.trans hR))
        clear ha hb hR
        go_wp2
        go_ret
        exact ⟨ret_int HR.out, rfl⟩
set_option maxHeartbeats 4000000 in
theorem byHolder (p q r s id : Int) (w : World) : Calls Tryz.prog 72 #[.agg #[.int .i64 p, .int .i64 q, .int .i64 r, .int .i64 s], .int .i64 id] w fun e w' => e = .returned (.int .i64 (c1 id [p, q, r, s])) ∧ Below w.heap.size w w' := by
  have e : c1 id [p, q, r, s] = cmpI p id := rfl
  rw [e]
  have hb : Below w.heap.size w (w.alloc (.cells #[.int .i64 p, .int .i64 q, .int .i64 r, .int .i64 s] 71)) := (Below.refl _ w).alloc (Nat.le_refl _) _
  have k0 : (w.alloc (.cells #[.int .i64 p, .int .i64 q, .int .i64 r, .int .i64 s] 71)).cell? ⟨w.heap.size, 0, none⟩ = some (.int .i64 p) := cell_of_row _ _ 0 _ 71 (0, 0) (heap_alloc_new w _)
  go_enter Tryz.func72, Tryz.ntmps72
  go_wp2_with (go_at_call 95; refine (compare79 _ _ _).mono ?_; rintro e w' ⟨rfl, rfl⟩)
  go_ret
  exact ⟨rfl, hb⟩
set_option maxHeartbeats 4000000 in
theorem byOpen (p q r s t z id : Int) (w : World) : Calls Tryz.prog 78 #[.agg #[.int .i64 p, .int .i64 q, .int .i64 r, .int .i64 s, .int .i64 t, .int .i64 z], .int .i64 id] w fun e w' => e = .returned (.int .i64 (c1 id [p, q, r, s, t, z])) ∧ Below w.heap.size w w' := by
  have e : c1 id [p, q, r, s, t, z] = cmpI p id := rfl
  rw [e]
  have hb : Below w.heap.size w (w.alloc (.cells #[.int .i64 p, .int .i64 q, .int .i64 r, .int .i64 s, .int .i64 t, .int .i64 z] 76)) := (Below.refl _ w).alloc (Nat.le_refl _) _
  have k0 : (w.alloc (.cells #[.int .i64 p, .int .i64 q, .int .i64 r, .int .i64 s, .int .i64 t, .int .i64 z] 76)).cell? ⟨w.heap.size, 0, none⟩ = some (.int .i64 p) := cell_of_row _ _ 0 _ 76 (0, 0) (heap_alloc_new w _)
  go_enter Tryz.func78, Tryz.ntmps78
  go_wp2_with (go_at_call 95; refine (compare79 _ _ _).mono ?_; rintro e w' ⟨rfl, rfl⟩)
  go_ret
  exact ⟨rfl, hb⟩
set_option maxHeartbeats 4000000 in
theorem byRate (p q id : Int) (w : World) : Calls Tryz.prog 81 #[.agg #[.int .i64 p, .int .i64 q], .int .i64 id] w fun e w' => e = .returned (.int .i64 (c1 id [p, q])) ∧ Below w.heap.size w w' := by
  have e : c1 id [p, q] = cmpI p id := rfl
  rw [e]
  have hb : Below w.heap.size w (w.alloc (.cells #[.int .i64 p, .int .i64 q] 50)) := (Below.refl _ w).alloc (Nat.le_refl _) _
  have k0 : (w.alloc (.cells #[.int .i64 p, .int .i64 q] 50)).cell? ⟨w.heap.size, 0, none⟩ = some (.int .i64 p) := cell_of_row _ _ 0 _ 50 (0, 0) (heap_alloc_new w _)
  go_enter Tryz.func81, Tryz.ntmps81
  go_wp2_with (go_at_call 95; refine (compare79 _ _ _).mono ?_; rintro e w' ⟨rfl, rfl⟩)
  go_ret
  exact ⟨rfl, hb⟩
set_option maxRecDepth 100000 in
set_option maxHeartbeats 8000000 in
theorem byStakeC (p q r id s : Int) (w : World) : Calls Tryz.prog 75 #[.agg #[.int .i64 p, .int .i64 q, .int .i64 r], .agg #[.int .i64 id, .int .i64 s]] w fun e w' => e = .returned (.int .i64 (c2 id s [p, q, r])) ∧ Below w.heap.size w w' := by
  obtain ⟨RES, hR⟩ : ∃ x, c2 id s [p, q, r] = x := ⟨_, rfl⟩
  have hR2 : (if cmpI p id = 0 then cmpI q s else cmpI p id) = RES := hR
  rw [hR]
  clear hR
  obtain ⟨W0, hW0⟩ : ∃ W, (w.alloc (.cells #[.int .i64 p, .int .i64 q, .int .i64 r] 73)).alloc (.cells #[.int .i64 id, .int .i64 s] 129) = W := ⟨_, rfl⟩
  have hlo : Below w.heap.size w W0 := by rw [← hW0]; exact ((Below.refl _ w).alloc (Nat.le_refl _) _).alloc (by simp) _
  have hx : W0.heap[w.heap.size]? = some (.cells #[.int .i64 p, .int .i64 q, .int .i64 r] 73) ∧ W0.heap[w.heap.size + 1]? = some (.cells #[.int .i64 id, .int .i64 s] 129) := by rw [← hW0]; exact two_new
  have hsz : W0.heap.size = w.heap.size + 2 := by rw [← hW0]; simp
  have HC := Lib.hid (show ∀ W, Below (w.heap.size + 2) W0 W → W.cell? ⟨w.heap.size, 0, none⟩ = some (.int .i64 p) ∧ W.cell? ⟨w.heap.size, 1, none⟩ = some (.int .i64 q) ∧ W.cell? ⟨w.heap.size + 1, 0, none⟩ = some (.int .i64 id) ∧ W.cell? ⟨w.heap.size + 1, 1, none⟩ = some (.int .i64 s) from fun W h =>
    ⟨cell_of_row _ _ 0 _ 73 (0, 0) ((h.block _ (by omega)).trans hx.1), cell_of_row _ _ 1 _ 73 (0, 0) ((h.block _ (by omega)).trans hx.1), cell_of_row _ _ 0 _ 129 (0, 0) ((h.block _ (by omega)).trans hx.2), cell_of_row _ _ 1 _ 129 (0, 0) ((h.block _ (by omega)).trans hx.2)⟩)
  have HLO := Lib.hid (show ∀ W, Below (w.heap.size + 2) W0 W → Below w.heap.size w W from fun W h => hlo.trans (h.mono (by omega)))
  have HSZ := Lib.hid (show ∀ W, Below (w.heap.size + 2) W0 W → w.heap.size + 2 ≤ W.heap.size from fun W h => by have := h.size; omega)
  clear hx hlo hsz
  obtain ⟨X1, hX1⟩ : ∃ z, cmpI p id = z := ⟨_, rfl⟩
  obtain ⟨X2, hX2⟩ : ∃ z, cmpI q s = z := ⟨_, rfl⟩
  rw [hX1, hX2] at hR2
  have HP1 := Lib.hid (fun W => compare79 p id W)
  have HP2 := Lib.hid (fun W => compare79 q s W)
  rw [hX1] at HP1
  rw [hX2] at HP2
  have HRR := Lib.hid hR2
  clear hX1 hX2 hR2
  go_enter Tryz.func75, Tryz.ntmps75
  go_wp2
  clear hW0
  refine wp_region_held_drew (S := fun W => Below (w.heap.size + 2) W0 W) (by kernel_rfl) (below_drewN' (Below.refl _ _) 1) (fun hS => ?_)
  refine wpAnyH_take (i := 0) (v := .pointer (some ⟨w.heap.size, 0, none⟩)) rfl (by kernel_rfl) (by kernel_rfl) (by kernel_rfl) (fun _ _ _ h => h) (Or.inl ⟨by simp [Region.wanted], fun W _ => by go_simp⟩) hS ?_
  simp only [lgT, lgZ, Act.put, lsT, lsZ, lsS]
  refine wpAnyH_take (i := 1) (v := .int .i64 p) rfl (by kernel_rfl) (by kernel_rfl) (by kernel_rfl) (fun _ _ _ h => h) (Or.inl ⟨by simp [Region.wanted], fun W hW => by obtain ⟨c1, c2, c3, c4⟩ := HC.out W hW; go_simp⟩) hS ?_
  simp only [lgT, lgZ, lgS, Act.put, lsT, lsZ, lsS]
  refine wpAnyH_take (i := 2) (v := .pointer (some ⟨w.heap.size + 1, 0, none⟩)) rfl (by kernel_rfl) (by kernel_rfl) (by kernel_rfl) (fun _ _ _ h => h) (Or.inl ⟨by simp [Region.wanted], fun W _ => by go_simp⟩) hS ?_
  simp only [lgT, lgZ, lgS, Act.put, lsT, lsZ, lsS]
  refine wpAnyH_take (i := 3) (v := .int .i64 id) rfl (by kernel_rfl) (by kernel_rfl) (by kernel_rfl) (fun _ _ _ h => h) (Or.inl ⟨by simp [Region.wanted], fun W hW => by obtain ⟨c1, c2, c3, c4⟩ := HC.out W hW; go_simp⟩) hS ?_
  simp only [lgT, lgZ, lgS, Act.put, lsT, lsZ, lsS]
  refine wpAnyH_take (i := 5) (v := .pointer (some ⟨w.heap.size, 1, none⟩)) rfl (by kernel_rfl) (by kernel_rfl) (by kernel_rfl) (fun _ _ _ h => h) (Or.inl ⟨by simp [Region.wanted], fun W _ => by go_simp⟩) hS ?_
  simp only [lgT, lgZ, lgS, Act.put, lsT, lsZ, lsS]
  refine wpAnyH_take (i := 6) (v := .int .i64 q) rfl (by kernel_rfl) (by kernel_rfl) (by kernel_rfl) (fun _ _ _ h => h) (Or.inl ⟨by simp [Region.wanted], fun W hW => by obtain ⟨c1, c2, c3, c4⟩ := HC.out W hW; go_simp⟩) hS ?_
  simp only [lgT, lgZ, lgS, Act.put, lsT, lsZ, lsS]
  refine wpAnyH_take (i := 7) (v := .pointer (some ⟨w.heap.size + 1, 1, none⟩)) rfl (by kernel_rfl) (by kernel_rfl) (by kernel_rfl) (fun _ _ _ h => h) (Or.inl ⟨by simp [Region.wanted], fun W _ => by go_simp⟩) hS ?_
  simp only [lgT, lgZ, lgS, Act.put, lsT, lsZ, lsS]
  refine wpAnyH_take (i := 8) (v := .int .i64 s) rfl (by kernel_rfl) (by kernel_rfl) (by kernel_rfl) (fun _ _ _ h => h) (Or.inl ⟨by simp [Region.wanted], fun W hW => by obtain ⟨c1, c2, c3, c4⟩ := HC.out W hW; go_simp⟩) hS ?_
  simp only [lgT, lgZ, lgS, Act.put, lsT, lsZ, lsS]
  refine wpAnyH_ready (rs := [4]) (by kernel_rfl) (by simp) ?_
  refine AllReadyH.cons rfl (fun K4 hK4 => ?_) AllReadyH.nil
  refine wanted_go rfl ?_
  simp only [lgT, lgZ, lgS]
  go_wp2_with (go_at_call 95; refine (HP1.out _).mono ?_; rintro e y ⟨rfl, rfl⟩)
  refine hK4.out _ _ hS (fun hS1 => ?_)
  refine wpAnyH_ready (rs := [9]) (by kernel_rfl) (by simp) ?_
  refine AllReadyH.cons rfl (fun K9 hK9 => ?_) AllReadyH.nil
  refine wanted_go rfl ?_
  simp only [lgT, lgZ, lgS]
  go_wp2_with (go_at_call 95; refine (HP2.out _).mono ?_; rintro e y ⟨rfl, rfl⟩)
  refine hK9.out _ _ hS1 (fun hS2 => ?_)
  refine wpAnyH_ready (rs := [10]) (by kernel_rfl) (by simp) ?_
  refine AllReadyH.cons rfl (fun K10 hK10 => ?_) AllReadyH.nil
  refine wanted_go rfl ?_
  simp only [lgT, lgZ, lgS]
  go_wp2
  refine hK10.out _ _ (hS2.alloc (HSZ.out _ hS2) _) (fun hS3 => ?_)
  refine wpAnyH_ready (rs := [11]) (by kernel_rfl) (by simp) ?_
  refine AllReadyH.cons rfl (fun K11 hK11 => ?_) AllReadyH.nil
  refine wanted_go rfl ?_
  simp only [lgT, lgZ, lgS]
  go_wp2_with (go_at_call 96; refine (or83 _ X1 X2 _ (cell_of_row _ _ 0 _ 3 (0, 0) (heap_alloc_new _ _)) (cell_of_row _ _ 1 _ 3 (0, 0) (heap_alloc_new _ _))).mono ?_; rw [HRR.out]; rintro e y ⟨rfl, rfl⟩)
  refine hK11.out _ _ hS3 (fun _ => ?_)
  refine wpAnyH_take (i := 12) (v := .int .i64 RES) rfl (by kernel_rfl) (by kernel_rfl) (by kernel_rfl) (fun _ _ _ h => h) (Or.inl ⟨by simp [Region.wanted], fun W _ => by go_simp⟩) hS3 ?_
  simp only [lgT, lgZ, lgS, Act.put, lsT, lsZ, lsS]
  refine wpAnyH_done (by kernel_rfl) ?_ _
  go_wp2
  go_ret
  exact ⟨rfl, HLO.out _ hS3⟩
end Go.Proofs.YtellifcjamedkaaGreat
namespace Go.Proofs.YtellifcjamedkaaGreat
open Go.RowKit Base Base2
set_option maxRecDepth 100000 in
set_option maxHeartbeats 8000000 in
theorem searchHolder (a : Option Addr) (c : Nat) (L : List Item) (id : Int) (w : World) (hr : RowsOf 4 w a L) (hk : ItemsOk 4 2000 L) (hs : riseL lt1 L = true) :
    Calls Tryz.prog 102 #[.slice a L.length c, .int .i64 id, .func (.func 72) #[] #[]] w fun e w' => e = .returned (.tuple #[.int .i64 (posL (c1 id) L : Int), .bool (foundL (c1 id) L)]) ∧ Below w.heap.size w w' := by
  have HROW := Lib.hid hr
  have hkl := hk.1
  have HK := Lib.hid hk.2
  have HB := Lib.hid (fun (p q r s : Int) W => byHolder p q r s id W)
  have HP := Lib.hid (fun (i : Nat) (x : Item) (h : L[i]? = some x) => pos_iff (mono1 id) hs h)
  have HF1 := Lib.hid (fun (x : Item) (h : L[posL (c1 id) L]? = some x) => foundL_some h)
  have HF0 := Lib.hid (fun (h : L[posL (c1 id) L]? = none) => foundL_none h)
  have hpl := posL_le (c1 id) L
  clear hr hk hs
  generalize foundL (c1 id) L = FO at *
  generalize posL (c1 id) L = PO at *
  go_enter Tryz.func102, Tryz.ntmps102
  go_wp2
  go_loopw [9, 10] (fun vi vj W => ∃ i j : Nat, vi = .int .i64 (i : Int) ∧ vj = .int .i64 (j : Int) ∧ i ≤ PO ∧ PO ≤ j ∧ j ≤ L.length ∧ Below w.heap.size w W) (fun vi vj _ => (intOf vj).toNat - (intOf vi).toNat)
  case atStart => exact ⟨0, L.length, rfl, rfl, Nat.zero_le _, hpl, Nat.le_refl _, Below.refl _ _⟩
  case round =>
    obtain ⟨i, j, rfl, rfl, hi, hj, hjl, hb⟩ := hrel
    have HLO := Lib.hid hb
    clear hb
    by_cases hlt : i < j
    · obtain ⟨x, hx⟩ : ∃ x, L[(i + j) / 2]? = some x := ⟨L[(i + j) / 2], by simp [show (i + j) / 2 < L.length by omega]⟩
      obtain ⟨b0, off, rfl, hb0, hcs⟩ := HROW.out.at hx
      obtain ⟨p, q, r, s, rfl⟩ := item4 (HK.out _ (List.mem_of_getElem? hx)).1
      have HCS := Lib.hid hcs
      clear hcs
      have HQ := HP.out _ _ hx
      obtain ⟨Z, hZ⟩ : ∃ zz, c1 id [p, q, r, s] = zz := ⟨_, rfl⟩
      have HBY := Lib.hid (fun W => HB.out p q r s W)
      rw [hZ] at HQ HBY
      clear hZ HB hx
      have HK1 := Lib.hid (show (i + j) / 2 < L.length by omega)
      have k0 := HCS.out wr HLO.out 0 p rfl
      have k1 := HCS.out wr HLO.out 1 q rfl
      have k2 := HCS.out wr HLO.out 2 r rfl
      have k3 := HCS.out wr HLO.out 3 s rfl
      rw [Nat.add_zero] at k0
      by_cases hz : Z < 0
      · have hpo := HQ.1 hz
        go_wp2_with (go_at_call 72; refine (HBY.out _).mono ?_; rintro e y ⟨rfl, hy⟩)
        go_roundw
        case rel => exact ⟨(i + j) / 2 + 1, j, by go_num, rfl, by omega, hj, hjl, HLO.out.trans (hy.mono HLO.out.size)⟩
        case measure => simp [intOf]; omega
      · have hpo : ¬ (i + j) / 2 < PO := fun h => hz (HQ.2 h)
        go_wp2_with (go_at_call 72; refine (HBY.out _).mono ?_; rintro e y ⟨rfl, hy⟩)
        go_roundw
        case rel => exact ⟨i, (i + j) / 2, rfl, by go_num, hi, by omega, by omega, HLO.out.trans (hy.mono HLO.out.size)⟩
        case measure => simp [intOf]; omega
    · have hij : i = PO := by omega
      subst hij
      by_cases hiL : i < L.length
      · obtain ⟨x, hx⟩ : ∃ x, L[i]? = some x := ⟨L[i], by simp [hiL]⟩
        have HF := Lib.hid (HF1.out _ hx)
        obtain ⟨b0, off, rfl, hb0, hcs⟩ := HROW.out.at hx
        obtain ⟨p, q, r, s, rfl⟩ := item4 (HK.out _ (List.mem_of_getElem? hx)).1
        have HCS := Lib.hid hcs
        clear hcs
        obtain ⟨Z, hZ⟩ : ∃ zz, c1 id [p, q, r, s] = zz := ⟨_, rfl⟩
        have HBY := Lib.hid (fun W => HB.out p q r s W)
        rw [hZ] at HBY HF
        clear hZ HB hx
        have k0 := HCS.out wr HLO.out 0 p rfl
        have k1 := HCS.out wr HLO.out 1 q rfl
        have k2 := HCS.out wr HLO.out 2 r rfl
        have k3 := HCS.out wr HLO.out 3 s rfl
        rw [Nat.add_zero] at k0
        go_wp2_with (go_at_call 72; refine (HBY.out _).mono ?_; rintro e y ⟨rfl, hy⟩)
        have hf := HF.out
        subst hf
        go_ret2
        exact ⟨rfl, HLO.out.trans (hy.mono HLO.out.size)⟩
      · have HF := Lib.hid (HF0.out (List.getElem?_eq_none (by omega)))
        go_wp2
        have hf := HF.out
        subst hf
        go_ret2
        exact ⟨rfl, HLO.out⟩
set_option maxHeartbeats 4000000 in
theorem placeHolder (a : Option Addr) (c : Nat) (L : List Item) (id : Int) (w : World) (hr : RowsOf 4 w a L) (hk : ItemsOk 4 2000 L) (hs : riseL lt1 L = true) :
    Calls Tryz.prog 100 #[.slice a L.length c, .int .i64 id, .func (.func 72) #[] #[]] w fun e w' => e = .returned (.tuple #[.int .i64 (posL (c1 id) L : Int), .bool (foundL (c1 id) L)]) ∧ Below w.heap.size w w' := by
  have HS := Lib.hid (fun W (h : Below w.heap.size w W) => searchHolder a c L id W (hr.below h) hk hs)
  clear hr hk hs
  generalize foundL (c1 id) L = FO at *
  generalize posL (c1 id) L = PO at *
  have HB := Lib.hid (Below.refl w.heap.size w)
  go_enter Tryz.func100, Tryz.ntmps100
  go_wp2_with (go_at_call 102; refine (HS.out _ HB.out).mono ?_; rintro e y ⟨rfl, hy⟩)
  go_ret2
  exact ⟨rfl, HB.out.trans (hy.mono HB.out.size)⟩
set_option maxRecDepth 100000 in
set_option maxHeartbeats 8000000 in
theorem searchRate (a : Option Addr) (c : Nat) (L : List Item) (id : Int) (w : World) (hr : RowsOf 2 w a L) (hk : ItemsOk 2 2000 L) (hs : riseL lt1 L = true) :
    Calls Tryz.prog 103 #[.slice a L.length c, .int .i64 id, .func (.func 81) #[] #[]] w fun e w' => e = .returned (.tuple #[.int .i64 (posL (c1 id) L : Int), .bool (foundL (c1 id) L)]) ∧ Below w.heap.size w w' := by
  have HROW := Lib.hid hr
  have hkl := hk.1
  have HK := Lib.hid hk.2
  have HB := Lib.hid (fun (p q : Int) W => byRate p q id W)
  have HP := Lib.hid (fun (i : Nat) (x : Item) (h : L[i]? = some x) => pos_iff (mono1 id) hs h)
  have HF1 := Lib.hid (fun (x : Item) (h : L[posL (c1 id) L]? = some x) => foundL_some h)
  have HF0 := Lib.hid (fun (h : L[posL (c1 id) L]? = none) => foundL_none h)
  have hpl := posL_le (c1 id) L
  clear hr hk hs
  generalize foundL (c1 id) L = FO at *
  generalize posL (c1 id) L = PO at *
  go_enter Tryz.func103, Tryz.ntmps103
  go_wp2
  go_loopw [9, 10] (fun vi vj W => ∃ i j : Nat, vi = .int .i64 (i : Int) ∧ vj = .int .i64 (j : Int) ∧ i ≤ PO ∧ PO ≤ j ∧ j ≤ L.length ∧ Below w.heap.size w W) (fun vi vj _ => (intOf vj).toNat - (intOf vi).toNat)
  case atStart => exact ⟨0, L.length, rfl, rfl, Nat.zero_le _, hpl, Nat.le_refl _, Below.refl _ _⟩
  case round =>
    obtain ⟨i, j, rfl, rfl, hi, hj, hjl, hb⟩ := hrel
    have HLO := Lib.hid hb
    clear hb
    by_cases hlt : i < j
    · obtain ⟨x, hx⟩ : ∃ x, L[(i + j) / 2]? = some x := ⟨L[(i + j) / 2], by simp [show (i + j) / 2 < L.length by omega]⟩
      obtain ⟨b0, off, rfl, hb0, hcs⟩ := HROW.out.at hx
      obtain ⟨p, q, rfl⟩ := item2 (HK.out _ (List.mem_of_getElem? hx)).1
      have HCS := Lib.hid hcs
      clear hcs
      have HQ := HP.out _ _ hx
      obtain ⟨Z, hZ⟩ : ∃ zz, c1 id [p, q] = zz := ⟨_, rfl⟩
      have HBY := Lib.hid (fun W => HB.out p q W)
      rw [hZ] at HQ HBY
      clear hZ HB hx
      have HK1 := Lib.hid (show (i + j) / 2 < L.length by omega)
      have k0 := HCS.out wr HLO.out 0 p rfl
      have k1 := HCS.out wr HLO.out 1 q rfl
      rw [Nat.add_zero] at k0
      by_cases hz : Z < 0
      · have hpo := HQ.1 hz
        go_wp2_with (go_at_call 81; refine (HBY.out _).mono ?_; rintro e y ⟨rfl, hy⟩)
        go_roundw
        case rel => exact ⟨(i + j) / 2 + 1, j, by go_num, rfl, by omega, hj, hjl, HLO.out.trans (hy.mono HLO.out.size)⟩
        case measure => simp [intOf]; omega
      · have hpo : ¬ (i + j) / 2 < PO := fun h => hz (HQ.2 h)
        go_wp2_with (go_at_call 81; refine (HBY.out _).mono ?_; rintro e y ⟨rfl, hy⟩)
        go_roundw
        case rel => exact ⟨i, (i + j) / 2, rfl, by go_num, hi, by omega, by omega, HLO.out.trans (hy.mono HLO.out.size)⟩
        case measure => simp [intOf]; omega
    · have hij : i = PO := by omega
      subst hij
      by_cases hiL : i < L.length
      · obtain ⟨x, hx⟩ : ∃ x, L[i]? = some x := ⟨L[i], by simp [hiL]⟩
        have HF := Lib.hid (HF1.out _ hx)
        obtain ⟨b0, off, rfl, hb0, hcs⟩ := HROW.out.at hx
        obtain ⟨p, q, rfl⟩ := item2 (HK.out _ (List.mem_of_getElem? hx)).1
        have HCS := Lib.hid hcs
        clear hcs
        obtain ⟨Z, hZ⟩ : ∃ zz, c1 id [p, q] = zz := ⟨_, rfl⟩
        have HBY := Lib.hid (fun W => HB.out p q W)
        rw [hZ] at HBY HF
        clear hZ HB hx
        have k0 := HCS.out wr HLO.out 0 p rfl
        have k1 := HCS.out wr HLO.out 1 q rfl
        rw [Nat.add_zero] at k0
        go_wp2_with (go_at_call 81; refine (HBY.out _).mono ?_; rintro e y ⟨rfl, hy⟩)
        have hf := HF.out
        subst hf
        go_ret2
        exact ⟨rfl, HLO.out.trans (hy.mono HLO.out.size)⟩
      · have HF := Lib.hid (HF0.out (List.getElem?_eq_none (by omega)))
        go_wp2
        have hf := HF.out
        subst hf
        go_ret2
        exact ⟨rfl, HLO.out⟩
set_option maxHeartbeats 4000000 in
theorem placeRate (a : Option Addr) (c : Nat) (L : List Item) (id : Int) (w : World) (hr : RowsOf 2 w a L) (hk : ItemsOk 2 2000 L) (hs : riseL lt1 L = true) :
    Calls Tryz.prog 101 #[.slice a L.length c, .int .i64 id, .func (.func 81) #[] #[]] w fun e w' => e = .returned (.tuple #[.int .i64 (posL (c1 id) L : Int), .bool (foundL (c1 id) L)]) ∧ Below w.heap.size w w' := by
  have HS := Lib.hid (fun W (h : Below w.heap.size w W) => searchRate a c L id W (hr.below h) hk hs)
  clear hr hk hs
  generalize foundL (c1 id) L = FO at *
  generalize posL (c1 id) L = PO at *
  have HB := Lib.hid (Below.refl w.heap.size w)
  go_enter Tryz.func101, Tryz.ntmps101
  go_wp2_with (go_at_call 103; refine (HS.out _ HB.out).mono ?_; rintro e y ⟨rfl, hy⟩)
  go_ret2
  exact ⟨rfl, HB.out.trans (hy.mono HB.out.size)⟩
end Go.Proofs.YtellifcjamedkaaGreat
namespace Go.Proofs.YtellifcjamedkaaGreat
open Go.RowKit Base Base2
def valI (k : Nat) (R : Option Item) : Value := match R with | some x => aggI x | none => aggI (List.replicate k 0)
set_option maxRecDepth 100000 in
set_option maxHeartbeats 4000000 in
theorem findHolder (a : Option Addr) (c : Nat) (L : List Item) (id : Int) (w : World) (hr : RowsOf 4 w a L) (hk : ItemsOk 4 2000 L) (hs : riseL lt1 L = true) :
    Calls Tryz.prog 97 #[.slice a L.length c, .int .i64 id, .func (.func 72) #[] #[]] w fun e w' => e = .returned (.tuple #[valI 4 (findL (is1 id) L), .bool (findL (is1 id) L).isSome]) ∧ Below w.heap.size w w' := by
  have HS := Lib.hid (fun W (h : Below w.heap.size w W) => placeHolder a c L id W (hr.below h) hk hs)
  have HROW := Lib.hid hr
  have hkl := hk.1
  have HK := Lib.hid hk.2
  have hpl := posL_le (c1 id) L
  have hf := find_pos (mono1 id) (is1_c id) hs
  rw [hf]
  have hlt := @foundL_lt (c1 id) L
  clear hr hk hs hf
  generalize foundL (c1 id) L = FO at *
  generalize posL (c1 id) L = PO at *
  obtain ⟨R, hR⟩ : ∃ R, (if FO = true then L[PO]? else none) = R := ⟨_, rfl⟩
  rw [hR]
  have HR := Lib.hid hR
  clear hR
  obtain ⟨W0, hW0⟩ : ∃ W, w.alloc (.cells #[.int .i64 0, .int .i64 0, .int .i64 0, .int .i64 0] 71) = W := ⟨_, rfl⟩
  have HB := Lib.hid (show Below w.heap.size w W0 by rw [← hW0]; exact (Below.refl _ w).alloc (Nat.le_refl _) _)
  have HSZ := Lib.hid (show W0.heap.size = w.heap.size + 1 by rw [← hW0]; simp)
  have HG := Lib.hid (show ∀ W, Below (w.heap.size + 1) W0 W → W.heap[w.heap.size]? = some (.cells #[.int .i64 0, .int .i64 0, .int .i64 0, .int .i64 0] 71 (0, 0)) from fun W h => (h.block _ (by omega)).trans (by rw [← hW0]; exact heap_alloc_new w _))
  cases FO with
  | true =>
    have hlt := hlt rfl
    obtain ⟨x, hx⟩ : ∃ x, L[PO]? = some x := ⟨L[PO], by simp [hlt]⟩
    have HX := Lib.hid (HR.out.symm.trans ((if_pos rfl).trans hx))
    obtain ⟨b0, off, rfl, hb0, hcs⟩ := HROW.out.at hx
    obtain ⟨p, q, r, s, rfl⟩ := item4 (HK.out _ (List.mem_of_getElem? hx)).1
    have HCS := Lib.hid hcs
    clear hcs hx HR
    go_enter Tryz.func97, Tryz.ntmps97
    go_wp2_with (first | ((with_reducible refine atStore (ty := 71) (x := .tmp 6) (y := .tmp 24) rfl ?_); refine wpList_store_row rfl 71 (.tmp 6) (.tmp 24) rfl w.heap.size #[.int .i64 p, .int .i64 q, .int .i64 r, .int .i64 s] rfl rfl 71 #[.int .i64 0, .int .i64 0, .int .i64 0, .int .i64 0] (HG.out _ HY.out) info33 rfl (by simp [Value.oneCell']) ?_) | (go_at_call 100; refine (HS.out _ HB.out).mono ?_; rintro e y ⟨rfl, hy⟩; have HY := Lib.hid (show Below (w.heap.size + 1) W0 y from hy.mono (by rw [HSZ.out]; exact Nat.le_refl _)); have HYW := Lib.hid (HB.out.trans (hy.mono HB.out.size)); have m0 := HCS.out y HYW.out 0 p rfl; have m1 := HCS.out y HYW.out 1 q rfl; have m2 := HCS.out y HYW.out 2 r rfl; have m3 := HCS.out y HYW.out 3 s rfl; rw [Nat.add_zero] at m0))
    refine ret_cell_tmp rfl rfl rfl rfl (setRow_heap _ _ _ _ _ _ (HG.out _ HY.out)) Tryz.underlying71 rfl info33 ?_
    rw [HX.out]
    exact ⟨rfl, below_row1 HYW.out (by omega)⟩
  | false =>
    have HX := Lib.hid (HR.out.symm.trans (if_neg (by simp)))
    clear HR
    go_enter Tryz.func97, Tryz.ntmps97
    go_wp2_with (first | ((with_reducible refine atStore (ty := 71) (x := .tmp 6) (y := .tmp 20) rfl ?_); refine wpList_store_row rfl 71 (.tmp 6) (.tmp 20) rfl w.heap.size #[.int .i64 0, .int .i64 0, .int .i64 0, .int .i64 0] rfl rfl 71 #[.int .i64 0, .int .i64 0, .int .i64 0, .int .i64 0] (HG.out _ (HY.out.alloc HYS.out _)) info33 rfl (by simp [Value.oneCell']) ?_) | (go_at_call 100; refine (HS.out _ HB.out).mono ?_; rintro e y ⟨rfl, hy⟩; have HY := Lib.hid (show Below (w.heap.size + 1) W0 y from hy.mono (by rw [HSZ.out]; exact Nat.le_refl _)); have HYS := Lib.hid (show w.heap.size + 1 ≤ y.heap.size by have h1 := hy.size; rw [HSZ.out] at h1; exact h1); have HYW := Lib.hid (HB.out.trans (hy.mono HB.out.size))))
    refine ret_cell_tmp rfl rfl rfl rfl (setRow_heap _ _ _ _ _ _ (HG.out _ (HY.out.alloc HYS.out _))) Tryz.underlying71 rfl info33 ?_
    rw [HX.out]
    exact ⟨rfl, below_row1 (HYW.out.alloc (Nat.le_trans (by omega) HYS.out) _) (by omega)⟩
set_option maxRecDepth 100000 in
set_option maxHeartbeats 4000000 in
theorem findRate (a : Option Addr) (c : Nat) (L : List Item) (id : Int) (w : World) (hr : RowsOf 2 w a L) (hk : ItemsOk 2 2000 L) (hs : riseL lt1 L = true) :
    Calls Tryz.prog 98 #[.slice a L.length c, .int .i64 id, .func (.func 81) #[] #[]] w fun e w' => e = .returned (.tuple #[valI 2 (findL (is1 id) L), .bool (findL (is1 id) L).isSome]) ∧ Below w.heap.size w w' := by
  have HS := Lib.hid (fun W (h : Below w.heap.size w W) => placeRate a c L id W (hr.below h) hk hs)
  have HROW := Lib.hid hr
  have hkl := hk.1
  have HK := Lib.hid hk.2
  have hpl := posL_le (c1 id) L
  have hf := find_pos (mono1 id) (is1_c id) hs
  rw [hf]
  have hlt := @foundL_lt (c1 id) L
  clear hr hk hs hf
  generalize foundL (c1 id) L = FO at *
  generalize posL (c1 id) L = PO at *
  obtain ⟨R, hR⟩ : ∃ R, (if FO = true then L[PO]? else none) = R := ⟨_, rfl⟩
  rw [hR]
  have HR := Lib.hid hR
  clear hR
  obtain ⟨W0, hW0⟩ : ∃ W, w.alloc (.cells #[.int .i64 0, .int .i64 0] 50) = W := ⟨_, rfl⟩
  have HB := Lib.hid (show Below w.heap.size w W0 by rw [← hW0]; exact (Below.refl _ w).alloc (Nat.le_refl _) _)
  have HSZ := Lib.hid (show W0.heap.size = w.heap.size + 1 by rw [← hW0]; simp)
  have HG := Lib.hid (show ∀ W, Below (w.heap.size + 1) W0 W → W.heap[w.heap.size]? = some (.cells #[.int .i64 0, .int .i64 0] 50 (0, 0)) from fun W h => (h.block _ (by omega)).trans (by rw [← hW0]; exact heap_alloc_new w _))
  cases FO with
  | true =>
    have hlt := hlt rfl
    obtain ⟨x, hx⟩ : ∃ x, L[PO]? = some x := ⟨L[PO], by simp [hlt]⟩
    have HX := Lib.hid (HR.out.symm.trans ((if_pos rfl).trans hx))
    obtain ⟨b0, off, rfl, hb0, hcs⟩ := HROW.out.at hx
    obtain ⟨p, q, rfl⟩ := item2 (HK.out _ (List.mem_of_getElem? hx)).1
    have HCS := Lib.hid hcs
    clear hcs hx HR
    go_enter Tryz.func98, Tryz.ntmps98
    go_wp2_with (first | ((with_reducible refine atStore (ty := 50) (x := .tmp 6) (y := .tmp 24) rfl ?_); refine wpList_store_row rfl 50 (.tmp 6) (.tmp 24) rfl w.heap.size #[.int .i64 p, .int .i64 q] rfl rfl 50 #[.int .i64 0, .int .i64 0] (HG.out _ HY.out) info47 rfl (by simp [Value.oneCell']) ?_) | (go_at_call 101; refine (HS.out _ HB.out).mono ?_; rintro e y ⟨rfl, hy⟩; have HY := Lib.hid (show Below (w.heap.size + 1) W0 y from hy.mono (by rw [HSZ.out]; exact Nat.le_refl _)); have HYW := Lib.hid (HB.out.trans (hy.mono HB.out.size)); have m0 := HCS.out y HYW.out 0 p rfl; have m1 := HCS.out y HYW.out 1 q rfl; rw [Nat.add_zero] at m0))
    refine ret_cell_tmp rfl rfl rfl rfl (setRow_heap _ _ _ _ _ _ (HG.out _ HY.out)) Tryz.underlying50 rfl info47 ?_
    rw [HX.out]
    exact ⟨rfl, below_row1 HYW.out (by omega)⟩
  | false =>
    have HX := Lib.hid (HR.out.symm.trans (if_neg (by simp)))
    clear HR
    go_enter Tryz.func98, Tryz.ntmps98
    go_wp2_with (first | ((with_reducible refine atStore (ty := 50) (x := .tmp 6) (y := .tmp 20) rfl ?_); refine wpList_store_row rfl 50 (.tmp 6) (.tmp 20) rfl w.heap.size #[.int .i64 0, .int .i64 0] rfl rfl 50 #[.int .i64 0, .int .i64 0] (HG.out _ (HY.out.alloc HYS.out _)) info47 rfl (by simp [Value.oneCell']) ?_) | (go_at_call 101; refine (HS.out _ HB.out).mono ?_; rintro e y ⟨rfl, hy⟩; have HY := Lib.hid (show Below (w.heap.size + 1) W0 y from hy.mono (by rw [HSZ.out]; exact Nat.le_refl _)); have HYS := Lib.hid (show w.heap.size + 1 ≤ y.heap.size by have h1 := hy.size; rw [HSZ.out] at h1; exact h1); have HYW := Lib.hid (HB.out.trans (hy.mono HB.out.size))))
    refine ret_cell_tmp rfl rfl rfl rfl (setRow_heap _ _ _ _ _ _ (HG.out _ (HY.out.alloc HYS.out _))) Tryz.underlying50 rfl info47 ?_
    rw [HX.out]
    exact ⟨rfl, below_row1 (HYW.out.alloc (Nat.le_trans (by omega) HYS.out) _) (by omega)⟩
end Go.Proofs.YtellifcjamedkaaGreat
