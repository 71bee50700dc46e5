/- The library's search in a list; the program's place: contracts. -/
import Derived.Test.YtmndkbfjmamnfaaBkQ1
namespace Go.Proofs.Ytmndkbfjmamnfaa
open Go.RowKit Base Base2

set_option maxRecDepth 100000 in
set_option maxHeartbeats 8000000 in
theorem searchHolder (a : Option Addr) (c : Nat) (L : List Item) (id : Int) (w : World) (hr : RowsOf 4 w a L) (hk : ItemsOk 4 2000 L) (hs : riseL lt1 L = true) :
    Calls Try.prog 96 #[.slice a L.length c, .int .i64 id, .func (.func 64) #[] #[]] w fun e w' => e = .returned (.tuple #[.int .i64 (posL (c1 id) L : Int), .bool (foundL (c1 id) L)]) ∧ Below w.heap.size w w' := by
  have HROW := Lib.hid hr
  have hkl := hk.1
  have HK := Lib.hid hk.2
  have HB := Lib.hid (fun (p q r s : Int) W => byHolder p q r s id W)
  have HP := Lib.hid (fun (i : Nat) (x : Item) (h : L[i]? = some x) => pos_iff (mono1 id) hs h)
  have HF1 := Lib.hid (fun (x : Item) (h : L[posL (c1 id) L]? = some x) => foundL_some h)
  have HF0 := Lib.hid (fun (h : L[posL (c1 id) L]? = none) => foundL_none h)
  have hpl := posL_le (c1 id) L
  clear hr hk hs
  generalize foundL (c1 id) L = FO at *
  generalize posL (c1 id) L = PO at *
  go_enter Try.func96, Try.ntmps96
  go_wp2
  go_loopw [9, 10] (fun vi vj W => ∃ i j : Nat, vi = .int .i64 (i : Int) ∧ vj = .int .i64 (j : Int) ∧ i ≤ PO ∧ PO ≤ j ∧ j ≤ L.length ∧ Below w.heap.size w W) (fun vi vj _ => (intOf vj).toNat - (intOf vi).toNat)
  case atStart => exact ⟨0, L.length, rfl, rfl, Nat.zero_le _, hpl, Nat.le_refl _, Below.refl _ _⟩
  case round =>
    obtain ⟨i, j, rfl, rfl, hi, hj, hjl, hb⟩ := hrel
    have HLO := Lib.hid hb
    clear hb
    by_cases hlt : i < j
    · obtain ⟨x, hx⟩ : ∃ x, L[(i + j) / 2]? = some x := ⟨L[(i + j) / 2], by simp [show (i + j) / 2 < L.length by omega]⟩
      obtain ⟨b0, off, rfl, hb0, hcs⟩ := HROW.out.at hx
      obtain ⟨p, q, r, s, rfl⟩ := item4 (HK.out _ (List.mem_of_getElem? hx)).1
      have HCS := Lib.hid hcs
      clear hcs
      have HQ := HP.out _ _ hx
      obtain ⟨Z, hZ⟩ : ∃ zz, c1 id [p, q, r, s] = zz := ⟨_, rfl⟩
      have HBY := Lib.hid (fun W => HB.out p q r s W)
      rw [hZ] at HQ HBY
      clear hZ HB hx
      have HK1 := Lib.hid (show (i + j) / 2 < L.length by omega)
      have k0 := HCS.out wr HLO.out 0 p rfl
      have k1 := HCS.out wr HLO.out 1 q rfl
      have k2 := HCS.out wr HLO.out 2 r rfl
      have k3 := HCS.out wr HLO.out 3 s rfl
      rw [Nat.add_zero] at k0
      by_cases hz : Z < 0
      · have hpo := HQ.1 hz
        go_wp2_with (go_at_call 64; refine (HBY.out _).mono ?_; rintro e y ⟨rfl, hy⟩)
        go_roundw
        case rel => exact ⟨(i + j) / 2 + 1, j, by go_num, rfl, by omega, hj, hjl, HLO.out.trans (hy.mono HLO.out.size)⟩
        case measure => simp [intOf]; omega
      · have hpo : ¬ (i + j) / 2 < PO := fun h => hz (HQ.2 h)
        go_wp2_with (go_at_call 64; refine (HBY.out _).mono ?_; rintro e y ⟨rfl, hy⟩)
        go_roundw
        case rel => exact ⟨i, (i + j) / 2, rfl, by go_num, hi, by omega, by omega, HLO.out.trans (hy.mono HLO.out.size)⟩
        case measure => simp [intOf]; omega
    · have hij : i = PO := by omega
      subst hij
      by_cases hiL : i < L.length
      · obtain ⟨x, hx⟩ : ∃ x, L[i]? = some x := ⟨L[i], by simp [hiL]⟩
        have HF := Lib.hid (HF1.out _ hx)
        obtain ⟨b0, off, rfl, hb0, hcs⟩ := HROW.out.at hx
        obtain ⟨p, q, r, s, rfl⟩ := item4 (HK.out _ (List.mem_of_getElem? hx)).1
        have HCS := Lib.hid hcs
        clear hcs
        obtain ⟨Z, hZ⟩ : ∃ zz, c1 id [p, q, r, s] = zz := ⟨_, rfl⟩
        have HBY := Lib.hid (fun W => HB.out p q r s W)
        rw [hZ] at HBY HF
        clear hZ HB hx
        have k0 := HCS.out wr HLO.out 0 p rfl
        have k1 := HCS.out wr HLO.out 1 q rfl
        have k2 := HCS.out wr HLO.out 2 r rfl
        have k3 := HCS.out wr HLO.out 3 s rfl
        rw [Nat.add_zero] at k0
        go_wp2_with (go_at_call 64; refine (HBY.out _).mono ?_; rintro e y ⟨rfl, hy⟩)
        have hf := HF.out
        subst hf
        go_ret2
        exact ⟨rfl, HLO.out.trans (hy.mono HLO.out.size)⟩
      · have HF := Lib.hid (HF0.out (List.getElem?_eq_none (by omega)))
        go_wp2
        have hf := HF.out
        subst hf
        go_ret2
        exact ⟨rfl, HLO.out⟩

set_option maxHeartbeats 4000000 in
theorem placeHolder (a : Option Addr) (c : Nat) (L : List Item) (id : Int) (w : World) (hr : RowsOf 4 w a L) (hk : ItemsOk 4 2000 L) (hs : riseL lt1 L = true) :
    Calls Try.prog 91 #[.slice a L.length c, .int .i64 id, .func (.func 64) #[] #[]] w fun e w' => e = .returned (.tuple #[.int .i64 (posL (c1 id) L : Int), .bool (foundL (c1 id) L)]) ∧ Below w.heap.size w w' := by
  have HS := Lib.hid (fun W (h : Below w.heap.size w W) => searchHolder a c L id W (hr.below h) hk hs)
  clear hr hk hs
  generalize foundL (c1 id) L = FO at *
  generalize posL (c1 id) L = PO at *
  have HB := Lib.hid (Below.refl w.heap.size w)
  go_enter Try.func91, Try.ntmps91
  go_wp2_with (go_at_call 96; refine (HS.out _ HB.out).mono ?_; rintro e y ⟨rfl, hy⟩)
  go_ret2
  exact ⟨rfl, HB.out.trans (hy.mono HB.out.size)⟩

set_option maxRecDepth 100000 in
set_option maxHeartbeats 8000000 in
theorem searchRate (a : Option Addr) (c : Nat) (L : List Item) (id : Int) (w : World) (hr : RowsOf 2 w a L) (hk : ItemsOk 2 2000 L) (hs : riseL lt1 L = true) :
    Calls Try.prog 97 #[.slice a L.length c, .int .i64 id, .func (.func 72) #[] #[]] w fun e w' => e = .returned (.tuple #[.int .i64 (posL (c1 id) L : Int), .bool (foundL (c1 id) L)]) ∧ Below w.heap.size w w' := by
  have HROW := Lib.hid hr
  have hkl := hk.1
  have HK := Lib.hid hk.2
  have HB := Lib.hid (fun (p q : Int) W => byRate p q id W)
  have HP := Lib.hid (fun (i : Nat) (x : Item) (h : L[i]? = some x) => pos_iff (mono1 id) hs h)
  have HF1 := Lib.hid (fun (x : Item) (h : L[posL (c1 id) L]? = some x) => foundL_some h)
  have HF0 := Lib.hid (fun (h : L[posL (c1 id) L]? = none) => foundL_none h)
  have hpl := posL_le (c1 id) L
  clear hr hk hs
  generalize foundL (c1 id) L = FO at *
  generalize posL (c1 id) L = PO at *
  go_enter Try.func97, Try.ntmps97
  go_wp2
  go_loopw [9, 10] (fun vi vj W => ∃ i j : Nat, vi = .int .i64 (i : Int) ∧ vj = .int .i64 (j : Int) ∧ i ≤ PO ∧ PO ≤ j ∧ j ≤ L.length ∧ Below w.heap.size w W) (fun vi vj _ => (intOf vj).toNat - (intOf vi).toNat)
  case atStart => exact ⟨0, L.length, rfl, rfl, Nat.zero_le _, hpl, Nat.le_refl _, Below.refl _ _⟩
  case round =>
    obtain ⟨i, j, rfl, rfl, hi, hj, hjl, hb⟩ := hrel
    have HLO := Lib.hid hb
    clear hb
    by_cases hlt : i < j
    · obtain ⟨x, hx⟩ : ∃ x, L[(i + j) / 2]? = some x := ⟨L[(i + j) / 2], by simp [show (i + j) / 2 < L.length by omega]⟩
      obtain ⟨b0, off, rfl, hb0, hcs⟩ := HROW.out.at hx
      obtain ⟨p, q, rfl⟩ := item2 (HK.out _ (List.mem_of_getElem? hx)).1
      have HCS := Lib.hid hcs
      clear hcs
      have HQ := HP.out _ _ hx
      obtain ⟨Z, hZ⟩ : ∃ zz, c1 id [p, q] = zz := ⟨_, rfl⟩
      have HBY := Lib.hid (fun W => HB.out p q W)
      rw [hZ] at HQ HBY
      clear hZ HB hx
      have HK1 := Lib.hid (show (i + j) / 2 < L.length by omega)
      have k0 := HCS.out wr HLO.out 0 p rfl
      have k1 := HCS.out wr HLO.out 1 q rfl
      rw [Nat.add_zero] at k0
      by_cases hz : Z < 0
      · have hpo := HQ.1 hz
        go_wp2_with (go_at_call 72; refine (HBY.out _).mono ?_; rintro e y ⟨rfl, hy⟩)
        go_roundw
        case rel => exact ⟨(i + j) / 2 + 1, j, by go_num, rfl, by omega, hj, hjl, HLO.out.trans (hy.mono HLO.out.size)⟩
        case measure => simp [intOf]; omega
      · have hpo : ¬ (i + j) / 2 < PO := fun h => hz (HQ.2 h)
        go_wp2_with (go_at_call 72; refine (HBY.out _).mono ?_; rintro e y ⟨rfl, hy⟩)
        go_roundw
        case rel => exact ⟨i, (i + j) / 2, rfl, by go_num, hi, by omega, by omega, HLO.out.trans (hy.mono HLO.out.size)⟩
        case measure => simp [intOf]; omega
    · have hij : i = PO := by omega
      subst hij
      by_cases hiL : i < L.length
      · obtain ⟨x, hx⟩ : ∃ x, L[i]? = some x := ⟨L[i], by simp [hiL]⟩
        have HF := Lib.hid (HF1.out _ hx)
        obtain ⟨b0, off, rfl, hb0, hcs⟩ := HROW.out.at hx
        obtain ⟨p, q, rfl⟩ := item2 (HK.out _ (List.mem_of_getElem? hx)).1
        have HCS := Lib.hid hcs
        clear hcs
        obtain ⟨Z, hZ⟩ : ∃ zz, c1 id [p, q] = zz := ⟨_, rfl⟩
        have HBY := Lib.hid (fun W => HB.out p q W)
        rw [hZ] at HBY HF
        clear hZ HB hx
        have k0 := HCS.out wr HLO.out 0 p rfl
        have k1 := HCS.out wr HLO.out 1 q rfl
        rw [Nat.add_zero] at k0
        go_wp2_with (go_at_call 72; refine (HBY.out _).mono ?_; rintro e y ⟨rfl, hy⟩)
        have hf := HF.out
        subst hf
        go_ret2
        exact ⟨rfl, HLO.out.trans (hy.mono HLO.out.size)⟩
      · have HF := Lib.hid (HF0.out (List.getElem?_eq_none (by omega)))
        go_wp2
        have hf := HF.out
        subst hf
        go_ret2
        exact ⟨rfl, HLO.out⟩

set_option maxHeartbeats 4000000 in
theorem placeRate (a : Option Addr) (c : Nat) (L : List Item) (id : Int) (w : World) (hr : RowsOf 2 w a L) (hk : ItemsOk 2 2000 L) (hs : riseL lt1 L = true) :
    Calls Try.prog 92 #[.slice a L.length c, .int .i64 id, .func (.func 72) #[] #[]] w fun e w' => e = .returned (.tuple #[.int .i64 (posL (c1 id) L : Int), .bool (foundL (c1 id) L)]) ∧ Below w.heap.size w w' := by
  have HS := Lib.hid (fun W (h : Below w.heap.size w W) => searchRate a c L id W (hr.below h) hk hs)
  clear hr hk hs
  generalize foundL (c1 id) L = FO at *
  generalize posL (c1 id) L = PO at *
  have HB := Lib.hid (Below.refl w.heap.size w)
  go_enter Try.func92, Try.ntmps92
  go_wp2_with (go_at_call 97; refine (HS.out _ HB.out).mono ?_; rintro e y ⟨rfl, hy⟩)
  go_ret2
  exact ⟨rfl, HB.out.trans (hy.mono HB.out.size)⟩

set_option maxRecDepth 100000 in
set_option maxHeartbeats 8000000 in
theorem searchStake (a : Option Addr) (c : Nat) (L : List Item) (id sy : Int) (w : World) (hr : RowsOf 3 w a L) (hk : ItemsOk 3 2000 L) (hs : riseL lt2 L = true) :
    Calls Try.prog 94 #[.slice a L.length c, .agg #[.int .i64 id, .int .i64 sy], .func (.func 61) #[] #[]] w fun e w' => e = .returned (.tuple #[.int .i64 (posL (c2 id sy) L : Int), .bool (foundL (c2 id sy) L)]) ∧ Below w.heap.size w w' := by
  have HROW := Lib.hid hr
  have hkl := hk.1
  have HK := Lib.hid hk.2
  have HB := Lib.hid (fun (p q r : Int) W => byStakeC p q r id sy W)
  have HP := Lib.hid (fun (i : Nat) (x : Item) (h : L[i]? = some x) => pos_iff (mono2 id sy) hs h)
  have HF1 := Lib.hid (fun (x : Item) (h : L[posL (c2 id sy) L]? = some x) => foundL_some h)
  have HF0 := Lib.hid (fun (h : L[posL (c2 id sy) L]? = none) => foundL_none h)
  have hpl := posL_le (c2 id sy) L
  clear hr hk hs
  generalize foundL (c2 id sy) L = FO at *
  generalize posL (c2 id sy) L = PO at *
  obtain ⟨W0, hW0⟩ : ∃ W, w.alloc (.cells #[.int .i64 id, .int .i64 sy] 92) = W := ⟨_, rfl⟩
  have hlo : Below w.heap.size w W0 := by rw [← hW0]; exact (Below.refl _ _).alloc (Nat.le_refl _) _
  have hsz : W0.heap.size = w.heap.size + 1 := by rw [← hW0]; simp
  have hx : W0.heap[w.heap.size]? = some (.cells #[.int .i64 id, .int .i64 sy] 92) := by rw [← hW0]; exact heap_alloc_new w _
  have HWL := Lib.hid (show ∀ W, Below (w.heap.size + 1) W0 W → Below w.heap.size w W from fun W h => hlo.trans (h.mono (by omega)))
  have HWS := Lib.hid (show ∀ W, Below (w.heap.size + 1) W0 W → w.heap.size + 1 ≤ W.heap.size from fun W h => by have := h.size; omega)
  have HWC := Lib.hid (show ∀ W, Below (w.heap.size + 1) W0 W → W.cell? ⟨w.heap.size, 0, none⟩ = some (.int .i64 id) ∧ W.cell? ⟨w.heap.size, 1, none⟩ = some (.int .i64 sy) from fun W h => ⟨cell_of_row _ _ 0 _ 92 (0, 0) ((h.block _ (by omega)).trans hx), cell_of_row _ _ 1 _ 92 (0, 0) ((h.block _ (by omega)).trans hx)⟩)
  clear hlo hsz hx
  go_enter Try.func94, Try.ntmps94
  go_wp2
  go_loopw [9, 10] (fun vi vj W => ∃ i j : Nat, vi = .int .i64 (i : Int) ∧ vj = .int .i64 (j : Int) ∧ i ≤ PO ∧ PO ≤ j ∧ j ≤ L.length ∧ Below (w.heap.size + 1) W0 W) (fun vi vj _ => (intOf vj).toNat - (intOf vi).toNat)
  case atStart => exact ⟨0, L.length, rfl, rfl, Nat.zero_le _, hpl, Nat.le_refl _, Below.refl _ _⟩
  case round =>
    obtain ⟨i, j, rfl, rfl, hi, hj, hjl, hb⟩ := hrel
    have HS0 := Lib.hid hb
    have HLO := Lib.hid (HWL.out _ hb)
    have HSS := Lib.hid (HWS.out _ hb)
    obtain ⟨j0, j1⟩ := HWC.out _ hb
    clear hb
    by_cases hlt : i < j
    · obtain ⟨x, hx⟩ : ∃ x, L[(i + j) / 2]? = some x := ⟨L[(i + j) / 2], by simp [show (i + j) / 2 < L.length by omega]⟩
      obtain ⟨b0, off, rfl, hb0, hcs⟩ := HROW.out.at hx
      obtain ⟨p, q, r, rfl⟩ := item3 (HK.out _ (List.mem_of_getElem? hx)).1
      have HCS := Lib.hid hcs
      clear hcs
      have HQ := HP.out _ _ hx
      obtain ⟨Z, hZ⟩ : ∃ zz, c2 id sy [p, q, r] = zz := ⟨_, rfl⟩
      have HBY := Lib.hid (fun W => HB.out p q r W)
      rw [hZ] at HQ HBY
      clear hZ HB hx
      have HK1 := Lib.hid (show (i + j) / 2 < L.length by omega)
      have k0 := HCS.out wr HLO.out 0 p rfl
      have k1 := HCS.out wr HLO.out 1 q rfl
      have k2 := HCS.out wr HLO.out 2 r rfl
      rw [Nat.add_zero] at k0
      by_cases hz : Z < 0
      · have hpo := HQ.1 hz
        go_wp2
        refine wp_region_held_drew (S := fun W => Below (w.heap.size + 1) W0 W) (by kernel_rfl) (below_drewN' HS0.out 1) (fun hS => ?_)
        refine wpAnyH_take (i := 0) (v := .func (.func 61) #[] #[]) rfl (by kernel_rfl) (by kernel_rfl) (by kernel_rfl) (fun _ _ _ h => h) (Or.inl ⟨by simp [Region.wanted], fun W _ => by go_simp⟩) hS ?_
        simp only [List.getElem_toArray, List.getElem_cons_zero, Act.put, List.setIfInBounds_toArray, List.set_cons_zero, List.set_cons_succ]
        refine wpAnyH_take (i := 1) (v := .slice (some ⟨b0, off, none⟩) L.length c) rfl (by kernel_rfl) (by kernel_rfl) (by kernel_rfl) (fun _ _ _ h => h) (Or.inl ⟨by simp [Region.wanted], fun W _ => by go_simp⟩) hS ?_
        simp only [List.getElem_toArray, List.getElem_cons_zero, List.getElem_cons_succ, Act.put, List.setIfInBounds_toArray, List.set_cons_zero, List.set_cons_succ]
        refine wpAnyH_take (i := 2) (v := .int .i64 (((i + j) / 2 : Nat) : Int)) rfl (by kernel_rfl) (by kernel_rfl) (by kernel_rfl) (fun _ _ _ h => h) (Or.inl ⟨by simp [Region.wanted], fun W _ => by go_simp⟩) hS ?_
        simp only [List.getElem_toArray, List.getElem_cons_zero, List.getElem_cons_succ, Act.put, List.setIfInBounds_toArray, List.set_cons_zero, List.set_cons_succ]
        refine wpAnyH_take (i := 3) (v := .pointer (some ⟨b0, off + (i + j) / 2 * 3, none⟩)) rfl (by kernel_rfl) (by kernel_rfl) (by kernel_rfl) (fun _ _ _ h => h) (Or.inl ⟨by simp [Region.wanted], fun W _ => by go_simp; rw [if_pos (by omega), show (((i : Int) + (j : Int)) / 2).toNat = (i + j) / 2 by omega]⟩) hS ?_
        simp only [List.getElem_toArray, List.getElem_cons_zero, List.getElem_cons_succ, Act.put, List.setIfInBounds_toArray, List.set_cons_zero, List.set_cons_succ]
        refine wpAnyH_take (i := 4) (v := .agg #[.int .i64 p, .int .i64 q, .int .i64 r]) rfl (by kernel_rfl) (by kernel_rfl) (by kernel_rfl) (fun _ _ _ h => h) (Or.inl ⟨by simp [Region.wanted], fun W hW => by obtain ⟨m0, m1⟩ := HWC.out W hW; have k0 := HCS.out W (HWL.out W hW) 0 p rfl; have k1 := HCS.out W (HWL.out W hW) 1 q rfl; have k2 := HCS.out W (HWL.out W hW) 2 r rfl; rw [Nat.add_zero] at k0; go_simp⟩) hS ?_
        simp only [List.getElem_toArray, List.getElem_cons_zero, List.getElem_cons_succ, Act.put, List.setIfInBounds_toArray, List.set_cons_zero, List.set_cons_succ]
        refine wpAnyH_take (i := 5) (v := .agg #[.int .i64 id, .int .i64 sy]) rfl (by kernel_rfl) (by kernel_rfl) (by kernel_rfl) (fun _ _ _ h => h) (Or.inl ⟨by simp [Region.wanted], fun W hW => by obtain ⟨m0, m1⟩ := HWC.out W hW; go_simp⟩) hS ?_
        simp only [List.getElem_toArray, List.getElem_cons_zero, List.getElem_cons_succ, Act.put, List.setIfInBounds_toArray, List.set_cons_zero, List.set_cons_succ]
        refine wpAnyH_ready (rs := [6]) (by kernel_rfl) (by simp) ?_
        refine AllReadyH.cons rfl (fun K1 hK1 => ?_) AllReadyH.nil
        refine wanted_go rfl ?_
        simp only [List.getElem_toArray, List.getElem_cons_zero, List.getElem_cons_succ]
        go_wp2_with (go_at_call 61; refine (HBY.out _).mono ?_; rintro e y ⟨rfl, hy⟩)
        refine hK1.out _ _ (hS.trans (hy.mono (HWS.out _ hS))) (fun hS1 => ?_)
        refine wpAnyH_take (i := 7) (v := .bool true) rfl (by kernel_rfl) (by kernel_rfl) (by kernel_rfl) (fun _ _ _ h => h) (Or.inl ⟨by simp [Region.wanted], fun W _ => by go_simp⟩) hS1 ?_
        simp only [List.getElem_toArray, List.getElem_cons_zero, List.getElem_cons_succ, Act.put, List.setIfInBounds_toArray, List.set_cons_zero, List.set_cons_succ]
        refine wpAnyH_done (by kernel_rfl) ?_ _
        go_wp2
        go_roundw
        case rel => exact ⟨(i + j) / 2 + 1, j, by go_num, rfl, by omega, hj, hjl, hS1⟩
        case measure => simp [intOf]; omega
      · have hpo : ¬ (i + j) / 2 < PO := fun h => hz (HQ.2 h)
        go_wp2
        refine wp_region_held_drew (S := fun W => Below (w.heap.size + 1) W0 W) (by kernel_rfl) (below_drewN' HS0.out 1) (fun hS => ?_)
        refine wpAnyH_take (i := 0) (v := .func (.func 61) #[] #[]) rfl (by kernel_rfl) (by kernel_rfl) (by kernel_rfl) (fun _ _ _ h => h) (Or.inl ⟨by simp [Region.wanted], fun W _ => by go_simp⟩) hS ?_
        simp only [List.getElem_toArray, List.getElem_cons_zero, Act.put, List.setIfInBounds_toArray, List.set_cons_zero, List.set_cons_succ]
        refine wpAnyH_take (i := 1) (v := .slice (some ⟨b0, off, none⟩) L.length c) rfl (by kernel_rfl) (by kernel_rfl) (by kernel_rfl) (fun _ _ _ h => h) (Or.inl ⟨by simp [Region.wanted], fun W _ => by go_simp⟩) hS ?_
        simp only [List.getElem_toArray, List.getElem_cons_zero, List.getElem_cons_succ, Act.put, List.setIfInBounds_toArray, List.set_cons_zero, List.set_cons_succ]
        refine wpAnyH_take (i := 2) (v := .int .i64 (((i + j) / 2 : Nat) : Int)) rfl (by kernel_rfl) (by kernel_rfl) (by kernel_rfl) (fun _ _ _ h => h) (Or.inl ⟨by simp [Region.wanted], fun W _ => by go_simp⟩) hS ?_
        simp only [List.getElem_toArray, List.getElem_cons_zero, List.getElem_cons_succ, Act.put, List.setIfInBounds_toArray, List.set_cons_zero, List.set_cons_succ]
        refine wpAnyH_take (i := 3) (v := .pointer (some ⟨b0, off + (i + j) / 2 * 3, none⟩)) rfl (by kernel_rfl) (by kernel_rfl) (by kernel_rfl) (fun _ _ _ h => h) (Or.inl ⟨by simp [Region.wanted], fun W _ => by go_simp; rw [if_pos (by omega), show (((i : Int) + (j : Int)) / 2).toNat = (i + j) / 2 by omega]⟩) hS ?_
        simp only [List.getElem_toArray, List.getElem_cons_zero, List.getElem_cons_succ, Act.put, List.setIfInBounds_toArray, List.set_cons_zero, List.set_cons_succ]
        refine wpAnyH_take (i := 4) (v := .agg #[.int .i64 p, .int .i64 q, .int .i64 r]) rfl (by kernel_rfl) (by kernel_rfl) (by kernel_rfl) (fun _ _ _ h => h) (Or.inl ⟨by simp [Region.wanted], fun W hW => by obtain ⟨m0, m1⟩ := HWC.out W hW; have k0 := HCS.out W (HWL.out W hW) 0 p rfl; have k1 := HCS.out W (HWL.out W hW) 1 q rfl; have k2 := HCS.out W (HWL.out W hW) 2 r rfl; rw [Nat.add_zero] at k0; go_simp⟩) hS ?_
        simp only [List.getElem_toArray, List.getElem_cons_zero, List.getElem_cons_succ, Act.put, List.setIfInBounds_toArray, List.set_cons_zero, List.set_cons_succ]
        refine wpAnyH_take (i := 5) (v := .agg #[.int .i64 id, .int .i64 sy]) rfl (by kernel_rfl) (by kernel_rfl) (by kernel_rfl) (fun _ _ _ h => h) (Or.inl ⟨by simp [Region.wanted], fun W hW => by obtain ⟨m0, m1⟩ := HWC.out W hW; go_simp⟩) hS ?_
        simp only [List.getElem_toArray, List.getElem_cons_zero, List.getElem_cons_succ, Act.put, List.setIfInBounds_toArray, List.set_cons_zero, List.set_cons_succ]
        refine wpAnyH_ready (rs := [6]) (by kernel_rfl) (by simp) ?_
        refine AllReadyH.cons rfl (fun K1 hK1 => ?_) AllReadyH.nil
        refine wanted_go rfl ?_
        simp only [List.getElem_toArray, List.getElem_cons_zero, List.getElem_cons_succ]
        go_wp2_with (go_at_call 61; refine (HBY.out _).mono ?_; rintro e y ⟨rfl, hy⟩)
        refine hK1.out _ _ (hS.trans (hy.mono (HWS.out _ hS))) (fun hS1 => ?_)
        refine wpAnyH_take (i := 7) (v := .bool false) rfl (by kernel_rfl) (by kernel_rfl) (by kernel_rfl) (fun _ _ _ h => h) (Or.inl ⟨by simp [Region.wanted], fun W _ => by go_simp⟩) hS1 ?_
        simp only [List.getElem_toArray, List.getElem_cons_zero, List.getElem_cons_succ, Act.put, List.setIfInBounds_toArray, List.set_cons_zero, List.set_cons_succ]
        refine wpAnyH_done (by kernel_rfl) ?_ _
        go_wp2
        go_roundw
        case rel => exact ⟨i, (i + j) / 2, rfl, by go_num, hi, by omega, by omega, hS1⟩
        case measure => simp [intOf]; omega
    · have hij : i = PO := by omega
      subst hij
      by_cases hiL : i < L.length
      · obtain ⟨x, hx⟩ : ∃ x, L[i]? = some x := ⟨L[i], by simp [hiL]⟩
        have HF := Lib.hid (HF1.out _ hx)
        obtain ⟨b0, off, rfl, hb0, hcs⟩ := HROW.out.at hx
        obtain ⟨p, q, r, rfl⟩ := item3 (HK.out _ (List.mem_of_getElem? hx)).1
        have HCS := Lib.hid hcs
        clear hcs
        obtain ⟨Z, hZ⟩ : ∃ zz, c2 id sy [p, q, r] = zz := ⟨_, rfl⟩
        have HBY := Lib.hid (fun W => HB.out p q r W)
        rw [hZ] at HBY HF
        clear hZ HB hx
        have k0 := HCS.out wr HLO.out 0 p rfl
        have k1 := HCS.out wr HLO.out 1 q rfl
        have k2 := HCS.out wr HLO.out 2 r rfl
        rw [Nat.add_zero] at k0
        go_wp2
        refine wp_region_held_drew (S := fun W => Below (w.heap.size + 1) W0 W) (by kernel_rfl) (below_drewN' HS0.out 1) (fun hS => ?_)
        refine wpAnyH_take (i := 0) (v := .int .i64 (i : Int)) rfl (by kernel_rfl) (by kernel_rfl) (by kernel_rfl) (fun _ _ _ h => h) (Or.inl ⟨by simp [Region.wanted], fun W _ => by go_simp⟩) hS ?_
        simp only [List.getElem_toArray, List.getElem_cons_zero, Act.put, List.setIfInBounds_toArray, List.set_cons_zero, List.set_cons_succ]
        refine wpAnyH_take (i := 1) (v := .int .i64 (i : Int)) rfl (by kernel_rfl) (by kernel_rfl) (by kernel_rfl) (fun _ _ _ h => h) (Or.inl ⟨by simp [Region.wanted], fun W _ => by go_simp⟩) hS ?_
        simp only [List.getElem_toArray, List.getElem_cons_zero, List.getElem_cons_succ, Act.put, List.setIfInBounds_toArray, List.set_cons_zero, List.set_cons_succ]
        refine wpAnyH_take (i := 2) (v := .int .i64 (L.length : Int)) rfl (by kernel_rfl) (by kernel_rfl) (by kernel_rfl) (fun _ _ _ h => h) (Or.inl ⟨by simp [Region.wanted], fun W _ => by go_simp⟩) hS ?_
        simp only [List.getElem_toArray, List.getElem_cons_zero, List.getElem_cons_succ, Act.put, List.setIfInBounds_toArray, List.set_cons_zero, List.set_cons_succ]
        refine wpAnyH_take (i := 3) (v := .bool true) rfl (by kernel_rfl) (by kernel_rfl) (by kernel_rfl) (fun _ _ _ h => h) (Or.inl ⟨by simp [Region.wanted], fun W _ => by go_simp⟩) hS ?_
        simp only [List.getElem_toArray, List.getElem_cons_zero, List.getElem_cons_succ, Act.put, List.setIfInBounds_toArray, List.set_cons_zero, List.set_cons_succ]
        refine wpAnyH_take (i := 4) (v := .bool true) rfl (by kernel_rfl) (by kernel_rfl) (by kernel_rfl) (fun _ _ _ h => h) (Or.inl ⟨by simp [Region.wanted], fun W _ => by go_simp⟩) hS ?_
        simp only [List.getElem_toArray, List.getElem_cons_zero, List.getElem_cons_succ, Act.put, List.setIfInBounds_toArray, List.set_cons_zero, List.set_cons_succ]
        refine wpAnyH_take (i := 5) (v := .func (.func 61) #[] #[]) rfl (by kernel_rfl) (by kernel_rfl) (by kernel_rfl) (fun _ _ _ h => h) (Or.inl ⟨by rfl, fun W _ => by go_simp⟩) hS ?_
        simp only [List.getElem_toArray, List.getElem_cons_zero, List.getElem_cons_succ, Act.put, List.setIfInBounds_toArray, List.set_cons_zero, List.set_cons_succ]
        refine wpAnyH_take (i := 6) (v := .slice (some ⟨b0, off, none⟩) L.length c) rfl (by kernel_rfl) (by kernel_rfl) (by kernel_rfl) (fun _ _ _ h => h) (Or.inl ⟨by rfl, fun W _ => by go_simp⟩) hS ?_
        simp only [List.getElem_toArray, List.getElem_cons_zero, List.getElem_cons_succ, Act.put, List.setIfInBounds_toArray, List.set_cons_zero, List.set_cons_succ]
        refine wpAnyH_take (i := 7) (v := .int .i64 (i : Int)) rfl (by kernel_rfl) (by kernel_rfl) (by kernel_rfl) (fun _ _ _ h => h) (Or.inl ⟨by rfl, fun W _ => by go_simp⟩) hS ?_
        simp only [List.getElem_toArray, List.getElem_cons_zero, List.getElem_cons_succ, Act.put, List.setIfInBounds_toArray, List.set_cons_zero, List.set_cons_succ]
        refine wpAnyH_take (i := 8) (v := .pointer (some ⟨b0, off + i * 3, none⟩)) rfl (by kernel_rfl) (by kernel_rfl) (by kernel_rfl) (fun _ _ _ h => h) (Or.inl ⟨by rfl, fun W _ => by go_simp⟩) hS ?_
        simp only [List.getElem_toArray, List.getElem_cons_zero, List.getElem_cons_succ, Act.put, List.setIfInBounds_toArray, List.set_cons_zero, List.set_cons_succ]
        refine wpAnyH_take (i := 9) (v := .agg #[.int .i64 p, .int .i64 q, .int .i64 r]) rfl (by kernel_rfl) (by kernel_rfl) (by kernel_rfl) (fun _ _ _ h => h) (Or.inl ⟨by rfl, fun W hW => by obtain ⟨m0, m1⟩ := HWC.out W hW; have k0 := HCS.out W (HWL.out W hW) 0 p rfl; have k1 := HCS.out W (HWL.out W hW) 1 q rfl; have k2 := HCS.out W (HWL.out W hW) 2 r rfl; rw [Nat.add_zero] at k0; go_simp⟩) hS ?_
        simp only [List.getElem_toArray, List.getElem_cons_zero, List.getElem_cons_succ, Act.put, List.setIfInBounds_toArray, List.set_cons_zero, List.set_cons_succ]
        refine wpAnyH_take (i := 10) (v := .agg #[.int .i64 id, .int .i64 sy]) rfl (by kernel_rfl) (by kernel_rfl) (by kernel_rfl) (fun _ _ _ h => h) (Or.inl ⟨by rfl, fun W hW => by obtain ⟨m0, m1⟩ := HWC.out W hW; go_simp⟩) hS ?_
        simp only [List.getElem_toArray, List.getElem_cons_zero, List.getElem_cons_succ, Act.put, List.setIfInBounds_toArray, List.set_cons_zero, List.set_cons_succ]
        refine wpAnyH_ready (rs := [11]) (by kernel_rfl) (by simp) ?_
        refine AllReadyH.cons rfl (fun K1 hK1 => ?_) AllReadyH.nil
        rw [if_pos (by rfl)]
        simp only [List.getElem_toArray, List.getElem_cons_zero, List.getElem_cons_succ]
        go_wp2_with (go_at_call 61; refine (HBY.out _).mono ?_; rintro e y ⟨rfl, hy⟩)
        refine hK1.out _ _ (hS.trans (hy.mono (HWS.out _ hS))) (fun hS1 => ?_)
        refine wpAnyH_take (i := 12) (v := .bool (Z == 0)) rfl (by kernel_rfl) (by kernel_rfl) (by kernel_rfl) (fun _ _ _ h => h) (Or.inl ⟨by rfl, fun W _ => by go_simp⟩) hS1 ?_
        simp only [List.getElem_toArray, List.getElem_cons_zero, List.getElem_cons_succ, Act.put, List.setIfInBounds_toArray, List.set_cons_zero, List.set_cons_succ]
        refine wpAnyH_take (i := 13) (v := .bool (Z == 0)) rfl (by kernel_rfl) (by kernel_rfl) (by kernel_rfl) (fun _ _ _ h => h) (Or.inl ⟨by simp [Region.wanted], fun W _ => by go_simp⟩) hS1 ?_
        simp only [List.getElem_toArray, List.getElem_cons_zero, List.getElem_cons_succ, Act.put, List.setIfInBounds_toArray, List.set_cons_zero, List.set_cons_succ]
        refine wpAnyH_take (i := 14) (v := .int .i64 (i : Int)) rfl (by kernel_rfl) (by kernel_rfl) (by kernel_rfl) (fun _ _ _ h => h) (Or.inl ⟨by simp [Region.wanted], fun W _ => by go_simp⟩) hS1 ?_
        simp only [List.getElem_toArray, List.getElem_cons_zero, List.getElem_cons_succ, Act.put, List.setIfInBounds_toArray, List.set_cons_zero, List.set_cons_succ]
        refine wpAnyH_take (i := 15) (v := .bool (Z == 0)) rfl (by kernel_rfl) (by kernel_rfl) (by kernel_rfl) (fun _ _ _ h => h) (Or.inl ⟨by simp [Region.wanted], fun W _ => by go_simp⟩) hS1 ?_
        simp only [List.getElem_toArray, List.getElem_cons_zero, List.getElem_cons_succ, Act.put, List.setIfInBounds_toArray, List.set_cons_zero, List.set_cons_succ]
        refine wpAnyH_done (by kernel_rfl) ?_ _
        go_wp2
        have hf := HF.out
        subst hf
        go_ret2
        exact ⟨rfl, HWL.out _ hS1⟩
      · have HF := Lib.hid (HF0.out (List.getElem?_eq_none (by omega)))
        go_wp2
        refine wp_region_held_drew (S := fun W => Below (w.heap.size + 1) W0 W) (by kernel_rfl) (below_drewN' HS0.out 1) (fun hS => ?_)
        refine wpAnyH_take (i := 0) (v := .int .i64 (i : Int)) rfl (by kernel_rfl) (by kernel_rfl) (by kernel_rfl) (fun _ _ _ h => h) (Or.inl ⟨by simp [Region.wanted], fun W _ => by go_simp⟩) hS ?_
        simp only [List.getElem_toArray, List.getElem_cons_zero, Act.put, List.setIfInBounds_toArray, List.set_cons_zero, List.set_cons_succ]
        refine wpAnyH_take (i := 1) (v := .int .i64 (i : Int)) rfl (by kernel_rfl) (by kernel_rfl) (by kernel_rfl) (fun _ _ _ h => h) (Or.inl ⟨by simp [Region.wanted], fun W _ => by go_simp⟩) hS ?_
        simp only [List.getElem_toArray, List.getElem_cons_zero, List.getElem_cons_succ, Act.put, List.setIfInBounds_toArray, List.set_cons_zero, List.set_cons_succ]
        refine wpAnyH_take (i := 2) (v := .int .i64 (L.length : Int)) rfl (by kernel_rfl) (by kernel_rfl) (by kernel_rfl) (fun _ _ _ h => h) (Or.inl ⟨by simp [Region.wanted], fun W _ => by go_simp⟩) hS ?_
        simp only [List.getElem_toArray, List.getElem_cons_zero, List.getElem_cons_succ, Act.put, List.setIfInBounds_toArray, List.set_cons_zero, List.set_cons_succ]
        refine wpAnyH_take (i := 3) (v := .bool false) rfl (by kernel_rfl) (by kernel_rfl) (by kernel_rfl) (fun _ _ _ h => h) (Or.inl ⟨by simp [Region.wanted], fun W _ => by go_simp⟩) hS ?_
        simp only [List.getElem_toArray, List.getElem_cons_zero, List.getElem_cons_succ, Act.put, List.setIfInBounds_toArray, List.set_cons_zero, List.set_cons_succ]
        refine wpAnyH_take (i := 4) (v := .bool false) rfl (by kernel_rfl) (by kernel_rfl) (by kernel_rfl) (fun _ _ _ h => h) (Or.inl ⟨by simp [Region.wanted], fun W _ => by go_simp⟩) hS ?_
        simp only [List.getElem_toArray, List.getElem_cons_zero, List.getElem_cons_succ, Act.put, List.setIfInBounds_toArray, List.set_cons_zero, List.set_cons_succ]
        refine wpAnyH_take (i := 5) (v := undef) rfl (by kernel_rfl) (by kernel_rfl) (by kernel_rfl) (fun _ _ _ h => h) (Or.inr ⟨by rfl, rfl⟩) hS ?_
        simp only [List.getElem_toArray, List.getElem_cons_zero, List.getElem_cons_succ, Act.put, List.setIfInBounds_toArray, List.set_cons_zero, List.set_cons_succ]
        refine wpAnyH_take (i := 6) (v := undef) rfl (by kernel_rfl) (by kernel_rfl) (by kernel_rfl) (fun _ _ _ h => h) (Or.inr ⟨by rfl, rfl⟩) hS ?_
        simp only [List.getElem_toArray, List.getElem_cons_zero, List.getElem_cons_succ, Act.put, List.setIfInBounds_toArray, List.set_cons_zero, List.set_cons_succ]
        refine wpAnyH_take (i := 7) (v := undef) rfl (by kernel_rfl) (by kernel_rfl) (by kernel_rfl) (fun _ _ _ h => h) (Or.inr ⟨by rfl, rfl⟩) hS ?_
        simp only [List.getElem_toArray, List.getElem_cons_zero, List.getElem_cons_succ, Act.put, List.setIfInBounds_toArray, List.set_cons_zero, List.set_cons_succ]
        refine wpAnyH_take (i := 8) (v := undef) rfl (by kernel_rfl) (by kernel_rfl) (by kernel_rfl) (fun _ _ _ h => h) (Or.inr ⟨by rfl, rfl⟩) hS ?_
        simp only [List.getElem_toArray, List.getElem_cons_zero, List.getElem_cons_succ, Act.put, List.setIfInBounds_toArray, List.set_cons_zero, List.set_cons_succ]
        refine wpAnyH_take (i := 9) (v := undef) rfl (by kernel_rfl) (by kernel_rfl) (by kernel_rfl) (fun _ _ _ h => h) (Or.inr ⟨by rfl, rfl⟩) hS ?_
        simp only [List.getElem_toArray, List.getElem_cons_zero, List.getElem_cons_succ, Act.put, List.setIfInBounds_toArray, List.set_cons_zero, List.set_cons_succ]
        refine wpAnyH_take (i := 10) (v := undef) rfl (by kernel_rfl) (by kernel_rfl) (by kernel_rfl) (fun _ _ _ h => h) (Or.inr ⟨by rfl, rfl⟩) hS ?_
        simp only [List.getElem_toArray, List.getElem_cons_zero, List.getElem_cons_succ, Act.put, List.setIfInBounds_toArray, List.set_cons_zero, List.set_cons_succ]
        refine wpAnyH_take (i := 11) (v := undef) rfl (by kernel_rfl) (by kernel_rfl) (by kernel_rfl) (fun _ _ _ h => h) (Or.inr ⟨by rfl, rfl⟩) hS ?_
        simp only [List.getElem_toArray, List.getElem_cons_zero, List.getElem_cons_succ, Act.put, List.setIfInBounds_toArray, List.set_cons_zero, List.set_cons_succ]
        refine wpAnyH_take (i := 12) (v := undef) rfl (by kernel_rfl) (by kernel_rfl) (by kernel_rfl) (fun _ _ _ h => h) (Or.inr ⟨by rfl, rfl⟩) hS ?_
        simp only [List.getElem_toArray, List.getElem_cons_zero, List.getElem_cons_succ, Act.put, List.setIfInBounds_toArray, List.set_cons_zero, List.set_cons_succ]
        refine wpAnyH_take (i := 13) (v := .bool false) rfl (by kernel_rfl) (by kernel_rfl) (by kernel_rfl) (fun _ _ _ h => h) (Or.inl ⟨by simp [Region.wanted], fun W _ => by go_simp⟩) hS ?_
        simp only [List.getElem_toArray, List.getElem_cons_zero, List.getElem_cons_succ, Act.put, List.setIfInBounds_toArray, List.set_cons_zero, List.set_cons_succ]
        refine wpAnyH_take (i := 14) (v := .int .i64 (i : Int)) rfl (by kernel_rfl) (by kernel_rfl) (by kernel_rfl) (fun _ _ _ h => h) (Or.inl ⟨by simp [Region.wanted], fun W _ => by go_simp⟩) hS ?_
        simp only [List.getElem_toArray, List.getElem_cons_zero, List.getElem_cons_succ, Act.put, List.setIfInBounds_toArray, List.set_cons_zero, List.set_cons_succ]
        refine wpAnyH_take (i := 15) (v := .bool false) rfl (by kernel_rfl) (by kernel_rfl) (by kernel_rfl) (fun _ _ _ h => h) (Or.inl ⟨by simp [Region.wanted], fun W _ => by go_simp⟩) hS ?_
        simp only [List.getElem_toArray, List.getElem_cons_zero, List.getElem_cons_succ, Act.put, List.setIfInBounds_toArray, List.set_cons_zero, List.set_cons_succ]
        refine wpAnyH_done (by kernel_rfl) ?_ _
        go_wp2
        have hf := HF.out
        subst hf
        go_ret2
        exact ⟨rfl, HWL.out _ hS⟩

set_option maxHeartbeats 4000000 in
theorem placeStake (a : Option Addr) (c : Nat) (L : List Item) (id sy : Int) (w : World) (hr : RowsOf 3 w a L) (hk : ItemsOk 3 2000 L) (hs : riseL lt2 L = true) :
    Calls Try.prog 88 #[.slice a L.length c, .agg #[.int .i64 id, .int .i64 sy], .func (.func 61) #[] #[]] w fun e w' => e = .returned (.tuple #[.int .i64 (posL (c2 id sy) L : Int), .bool (foundL (c2 id sy) L)]) ∧ Below w.heap.size w w' := by
  have HS := Lib.hid (fun W (h : Below w.heap.size w W) => searchStake a c L id sy W (hr.below h) hk hs)
  clear hr hk hs
  generalize foundL (c2 id sy) L = FO at *
  generalize posL (c2 id sy) L = PO at *
  have HB := Lib.hid (show Below w.heap.size w (w.alloc (.cells #[.int .i64 id, .int .i64 sy] 92)) from (Below.refl _ w).alloc (Nat.le_refl _) _)
  have k0 : (w.alloc (.cells #[.int .i64 id, .int .i64 sy] 92)).cell? ⟨w.heap.size, 0, none⟩ = some (.int .i64 id) := cell_of_row _ _ 0 _ 92 (0, 0) (heap_alloc_new w _)
  have k1 : (w.alloc (.cells #[.int .i64 id, .int .i64 sy] 92)).cell? ⟨w.heap.size, 1, none⟩ = some (.int .i64 sy) := cell_of_row _ _ 1 _ 92 (0, 0) (heap_alloc_new w _)
  go_enter Try.func88, Try.ntmps88
  go_wp2_with (go_at_call 94; refine (HS.out _ HB.out).mono ?_; rintro e y ⟨rfl, hy⟩)
  go_ret2
  exact ⟨rfl, HB.out.trans (hy.mono HB.out.size)⟩
end Go.Proofs.Ytmndkbfjmamnfaa
