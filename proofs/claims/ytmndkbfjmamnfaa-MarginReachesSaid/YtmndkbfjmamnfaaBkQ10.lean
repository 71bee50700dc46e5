/- The program's rises, rise, few: contracts. -/
import Derived.Test.YtmndkbfjmamnfaaBkQ1
import Derived.Test.YtmndkbfjmamnfaaBkLaw
namespace Go.Proofs.Ytmndkbfjmamnfaa
open Go.RowKit Base Base2

theorem c1_ltQ (x y : Item) : 0 ≤ c1 (key 0 y) x ↔ lt1 x y = false := by
  have := @cmpI_nonneg (key 0 x) (key 0 y)
  unfold c1 lt1
  rw [decide_eq_false_iff_not]; omega
theorem c2_lt (x y : Item) : 0 ≤ c2 (key 0 y) (key 1 y) x ↔ lt2 x y = false := by
  have := @c2_neg (key 0 y) (key 1 y) x
  unfold lt2
  rw [Bool.or_eq_false_iff, decide_eq_false_iff_not, Bool.and_eq_false_iff, decide_eq_false_iff_not, decide_eq_false_iff_not]; omega

set_option maxHeartbeats 4000000 in
theorem cloHolder (p q r s p' q' r' s' : Int) (w : World) : Calls Try.prog 63 #[.agg #[.int .i64 p, .int .i64 q, .int .i64 r, .int .i64 s], .agg #[.int .i64 p', .int .i64 q', .int .i64 r', .int .i64 s']] w fun e w' => e = .returned (.int .i64 (c1 p' [p, q, r, s])) ∧ Below w.heap.size w w' := by
  obtain ⟨W0, hW0⟩ : ∃ W, (w.alloc (.cells #[.int .i64 p, .int .i64 q, .int .i64 r, .int .i64 s] 45)).alloc (.cells #[.int .i64 p', .int .i64 q', .int .i64 r', .int .i64 s'] 45) = W := ⟨_, rfl⟩
  have hlo : Below w.heap.size w W0 := by rw [← hW0]; exact ((Below.refl _ w).alloc (Nat.le_refl _) _).alloc (by simp) _
  have hx : W0.heap[w.heap.size]? = some (.cells #[.int .i64 p, .int .i64 q, .int .i64 r, .int .i64 s] 45) ∧ W0.heap[w.heap.size + 1]? = some (.cells #[.int .i64 p', .int .i64 q', .int .i64 r', .int .i64 s'] 45) := by rw [← hW0]; exact two_new
  have k0 : W0.cell? ⟨w.heap.size, 0, none⟩ = some (.int .i64 p) := cell_of_row _ _ 0 _ 45 (0, 0) hx.1
  have k1 : W0.cell? ⟨w.heap.size, 1, none⟩ = some (.int .i64 q) := cell_of_row _ _ 1 _ 45 (0, 0) hx.1
  have k2 : W0.cell? ⟨w.heap.size, 2, none⟩ = some (.int .i64 r) := cell_of_row _ _ 2 _ 45 (0, 0) hx.1
  have k3 : W0.cell? ⟨w.heap.size, 3, none⟩ = some (.int .i64 s) := cell_of_row _ _ 3 _ 45 (0, 0) hx.1
  have j0 : W0.cell? ⟨w.heap.size + 1, 0, none⟩ = some (.int .i64 p') := cell_of_row _ _ 0 _ 45 (0, 0) hx.2
  clear hx
  go_enter Try.func63, Try.ntmps63
  go_wp2_with (go_at_call 64; refine (byHolder p q r s p' W0).mono ?_; rintro e y ⟨rfl, hy⟩)
  go_ret
  exact ⟨rfl, hlo.trans (hy.mono hlo.size)⟩
set_option maxRecDepth 100000 in
set_option maxHeartbeats 8000000 in
theorem risesHolder (a : Option Addr) (c : Nat) (L : List Item) (w : World) (hr : RowsOf 4 w a L) (hk : ItemsOk 4 2000 L) :
    Calls Try.prog 62 #[.slice a L.length c, .func (.func 63) #[] #[]] w fun e w' => e = .returned (.bool (riseL lt1 L)) ∧ Below w.heap.size w w' := by
  obtain ⟨RES, hR⟩ : ∃ r, riseL lt1 L = r := ⟨_, rfl⟩
  rw [hR]
  have HR := Lib.hid hR
  have HROW := Lib.hid hr
  have hkl := hk.1
  have HK := Lib.hid hk.2
  have HB0 := Lib.hid (Below.refl w.heap.size w)
  clear hR hr hk
  go_enter Try.func62, Try.ntmps62
  go_wp2
  go_loopw [5] (fun vi W => ∃ j : Nat, vi = .int .i64 (((j + 1 : Nat)) : Int) ∧ j ≤ L.length ∧ riseL lt1 (L.take (j + 1)) = true ∧ Below w.heap.size w W) (fun vi _ => L.length - (intOf vi).toNat)
  case atStart => exact ⟨0, rfl, Nat.zero_le _, by cases L <;> rfl, HB0.out⟩
  case round =>
    obtain ⟨j, rfl, hj, hri, hbw⟩ := hrel
    have HB := Lib.hid hbw
    have HRI := Lib.hid hri
    clear hbw hri
    by_cases hlt : j + 1 < L.length
    · obtain ⟨x, hx⟩ : ∃ x, L[j]? = some x := ⟨L[j]'(by omega), by simp⟩
      obtain ⟨y, hy⟩ : ∃ y, L[j + 1]? = some y := ⟨L[j + 1]'hlt, by simp [hlt]⟩
      have hnx := rise_next hx hy HRI.out
      obtain ⟨b0, off, rfl, hcs⟩ := two_at HROW.out hx hy
      obtain ⟨p, q, r, s, rfl⟩ := item4 (HK.out _ (List.mem_of_getElem? hx)).1
      obtain ⟨p', q', r', s', rfl⟩ := item4 (HK.out _ (List.mem_of_getElem? hy)).1
      have HCS := Lib.hid hcs
      have hji : ((j + 1 : Nat) : Int) - 1 = (j : Int) := by omega
      have HCC := Lib.hid (c1_ltQ [p, q, r, s] [p', q', r', s'])
      have HCL := Lib.hid (fun W => cloHolder p q r s p' q' r' s' W)
      have e9 : (c1 (key 0 [p', q', r', s']) [p, q, r, s]) = c1 p' [p, q, r, s] := rfl
      rw [e9] at HCC
      obtain ⟨Z, hZ⟩ : ∃ zz, c1 p' [p, q, r, s] = zz := ⟨_, rfl⟩
      rw [hZ] at HCC HCL
      clear hcs hx hy hZ e9
      by_cases hz : 0 ≤ Z
      · have HNO := Lib.hid (HR.out.symm.trans (rise_no (lt := lt1) (i := j + 2) (by rw [hnx]; exact HCC.out.1 hz)))
        clear hnx HCC
        go_wp2
        refine wp_region_held_drew (S := fun W => Below w.heap.size w W) (by kernel_rfl) (below_drewN' HB.out 1) (fun hS => ?_)
        refine wpAnyH_take (i := 0) (v := .func (.func 63) #[] #[]) rfl (by kernel_rfl) (by kernel_rfl) (by kernel_rfl) (fun _ _ _ h => h) (Or.inl ⟨by simp [Region.wanted], fun W _ => by go_simp⟩) hS ?_
        simp only [List.getElem_toArray, List.getElem_cons_zero, Act.put, List.setIfInBounds_toArray, List.set_cons_zero, List.set_cons_succ]
        refine wpAnyH_take (i := 1) (v := .slice (some ⟨b0, off, none⟩) L.length c) rfl (by kernel_rfl) (by kernel_rfl) (by kernel_rfl) (fun _ _ _ h => h) (Or.inl ⟨by simp [Region.wanted], fun W _ => by go_simp⟩) hS ?_
        simp only [List.getElem_toArray, List.getElem_cons_zero, List.getElem_cons_succ, Act.put, List.setIfInBounds_toArray, List.set_cons_zero, List.set_cons_succ]
        refine wpAnyH_take (i := 2) (v := .int .i64 ((j + 1 : Nat) : Int)) rfl (by kernel_rfl) (by kernel_rfl) (by kernel_rfl) (fun _ _ _ h => h) (Or.inl ⟨by simp [Region.wanted], fun W _ => by go_simp⟩) hS ?_
        simp only [List.getElem_toArray, List.getElem_cons_zero, List.getElem_cons_succ, Act.put, List.setIfInBounds_toArray, List.set_cons_zero, List.set_cons_succ]
        refine wpAnyH_take (i := 3) (v := .int .i64 (j : Int)) rfl (by kernel_rfl) (by kernel_rfl) (by kernel_rfl) (fun _ _ _ h => h) (Or.inl ⟨by simp [Region.wanted], fun W _ => by go_simp; rw [IntKind.wrap_i64]; omega⟩) hS ?_
        simp only [List.getElem_toArray, List.getElem_cons_zero, List.getElem_cons_succ, Act.put, List.setIfInBounds_toArray, List.set_cons_zero, List.set_cons_succ]
        refine wpAnyH_take (i := 4) (v := .pointer (some ⟨b0, off + j * 4, none⟩)) rfl (by kernel_rfl) (by kernel_rfl) (by kernel_rfl) (fun _ _ _ h => h) (Or.inl ⟨by simp [Region.wanted], fun W _ => by go_simp; intro hh; omega⟩) hS ?_
        simp only [List.getElem_toArray, List.getElem_cons_zero, List.getElem_cons_succ, Act.put, List.setIfInBounds_toArray, List.set_cons_zero, List.set_cons_succ]
        refine wpAnyH_take (i := 5) (v := .agg #[.int .i64 p, .int .i64 q, .int .i64 r, .int .i64 s]) rfl (by kernel_rfl) (by kernel_rfl) (by kernel_rfl) (fun _ _ _ h => h) (Or.inl ⟨by simp [Region.wanted], fun W hW => by obtain ⟨m1, m2⟩ := HCS.out W hW; have k0 := m1 0 p rfl; have k1 := m1 1 q rfl; have k2 := m1 2 r rfl; have k3 := m1 3 s rfl; rw [Nat.add_zero] at k0; go_simp⟩) hS ?_
        simp only [List.getElem_toArray, List.getElem_cons_zero, List.getElem_cons_succ, Act.put, List.setIfInBounds_toArray, List.set_cons_zero, List.set_cons_succ]
        refine wpAnyH_take (i := 6) (v := .slice (some ⟨b0, off, none⟩) L.length c) rfl (by kernel_rfl) (by kernel_rfl) (by kernel_rfl) (fun _ _ _ h => h) (Or.inl ⟨by simp [Region.wanted], fun W _ => by go_simp⟩) hS ?_
        simp only [List.getElem_toArray, List.getElem_cons_zero, List.getElem_cons_succ, Act.put, List.setIfInBounds_toArray, List.set_cons_zero, List.set_cons_succ]
        refine wpAnyH_take (i := 7) (v := .int .i64 ((j + 1 : Nat) : Int)) rfl (by kernel_rfl) (by kernel_rfl) (by kernel_rfl) (fun _ _ _ h => h) (Or.inl ⟨by simp [Region.wanted], fun W _ => by go_simp⟩) hS ?_
        simp only [List.getElem_toArray, List.getElem_cons_zero, List.getElem_cons_succ, Act.put, List.setIfInBounds_toArray, List.set_cons_zero, List.set_cons_succ]
        refine wpAnyH_take (i := 8) (v := .pointer (some ⟨b0, off + (j + 1) * 4, none⟩)) rfl (by kernel_rfl) (by kernel_rfl) (by kernel_rfl) (fun _ _ _ h => h) (Or.inl ⟨by simp [Region.wanted], fun W _ => by go_simp; intro hh; omega⟩) hS ?_
        simp only [List.getElem_toArray, List.getElem_cons_zero, List.getElem_cons_succ, Act.put, List.setIfInBounds_toArray, List.set_cons_zero, List.set_cons_succ]
        refine wpAnyH_take (i := 9) (v := .agg #[.int .i64 p', .int .i64 q', .int .i64 r', .int .i64 s']) rfl (by kernel_rfl) (by kernel_rfl) (by kernel_rfl) (fun _ _ _ h => h) (Or.inl ⟨by simp [Region.wanted], fun W hW => by obtain ⟨m1, m2⟩ := HCS.out W hW; have k0 := m2 0 p' rfl; have k1 := m2 1 q' rfl; have k2 := m2 2 r' rfl; have k3 := m2 3 s' rfl; rw [Nat.add_zero] at k0; go_simp⟩) hS ?_
        simp only [List.getElem_toArray, List.getElem_cons_zero, List.getElem_cons_succ, Act.put, List.setIfInBounds_toArray, List.set_cons_zero, List.set_cons_succ]
        refine wpAnyH_ready (rs := [10]) (by kernel_rfl) (by simp) ?_
        refine AllReadyH.cons rfl (fun K1 hK1 => ?_) AllReadyH.nil
        refine wanted_go rfl ?_
        simp only [List.getElem_toArray, List.getElem_cons_zero, List.getElem_cons_succ]
        go_wp2_with (go_at_call 63; refine (HCL.out _).mono ?_; rintro e y ⟨rfl, hy⟩)
        refine hK1.out _ _ (hS.trans (hy.mono hS.size)) (fun hS1 => ?_)
        refine wpAnyH_take (i := 11) (v := .bool true) rfl (by kernel_rfl) (by kernel_rfl) (by kernel_rfl) (fun _ _ _ h => h) (Or.inl ⟨by simp [Region.wanted], fun W _ => by go_simp⟩) hS1 ?_
        simp only [List.getElem_toArray, List.getElem_cons_zero, List.getElem_cons_succ, Act.put, List.setIfInBounds_toArray, List.set_cons_zero, List.set_cons_succ]
        refine wpAnyH_done (by kernel_rfl) ?_ _
        go_wp2
        go_ret
        exact ⟨ret_bool HNO.out.symm, hS1⟩
      · have HNX := Lib.hid (show riseL lt1 (L.take (j + 1 + 1)) = true by
          rw [hnx]
          cases hh : lt1 [p, q, r, s] [p', q', r', s']
          · exact absurd (HCC.out.2 hh) hz
          · rfl)
        clear hnx HCC
        go_wp2
        refine wp_region_held_drew (S := fun W => Below w.heap.size w W) (by kernel_rfl) (below_drewN' HB.out 1) (fun hS => ?_)
        refine wpAnyH_take (i := 0) (v := .func (.func 63) #[] #[]) rfl (by kernel_rfl) (by kernel_rfl) (by kernel_rfl) (fun _ _ _ h => h) (Or.inl ⟨by simp [Region.wanted], fun W _ => by go_simp⟩) hS ?_
        simp only [List.getElem_toArray, List.getElem_cons_zero, Act.put, List.setIfInBounds_toArray, List.set_cons_zero, List.set_cons_succ]
        refine wpAnyH_take (i := 1) (v := .slice (some ⟨b0, off, none⟩) L.length c) rfl (by kernel_rfl) (by kernel_rfl) (by kernel_rfl) (fun _ _ _ h => h) (Or.inl ⟨by simp [Region.wanted], fun W _ => by go_simp⟩) hS ?_
        simp only [List.getElem_toArray, List.getElem_cons_zero, List.getElem_cons_succ, Act.put, List.setIfInBounds_toArray, List.set_cons_zero, List.set_cons_succ]
        refine wpAnyH_take (i := 2) (v := .int .i64 ((j + 1 : Nat) : Int)) rfl (by kernel_rfl) (by kernel_rfl) (by kernel_rfl) (fun _ _ _ h => h) (Or.inl ⟨by simp [Region.wanted], fun W _ => by go_simp⟩) hS ?_
        simp only [List.getElem_toArray, List.getElem_cons_zero, List.getElem_cons_succ, Act.put, List.setIfInBounds_toArray, List.set_cons_zero, List.set_cons_succ]
        refine wpAnyH_take (i := 3) (v := .int .i64 (j : Int)) rfl (by kernel_rfl) (by kernel_rfl) (by kernel_rfl) (fun _ _ _ h => h) (Or.inl ⟨by simp [Region.wanted], fun W _ => by go_simp; rw [IntKind.wrap_i64]; omega⟩) hS ?_
        simp only [List.getElem_toArray, List.getElem_cons_zero, List.getElem_cons_succ, Act.put, List.setIfInBounds_toArray, List.set_cons_zero, List.set_cons_succ]
        refine wpAnyH_take (i := 4) (v := .pointer (some ⟨b0, off + j * 4, none⟩)) rfl (by kernel_rfl) (by kernel_rfl) (by kernel_rfl) (fun _ _ _ h => h) (Or.inl ⟨by simp [Region.wanted], fun W _ => by go_simp; intro hh; omega⟩) hS ?_
        simp only [List.getElem_toArray, List.getElem_cons_zero, List.getElem_cons_succ, Act.put, List.setIfInBounds_toArray, List.set_cons_zero, List.set_cons_succ]
        refine wpAnyH_take (i := 5) (v := .agg #[.int .i64 p, .int .i64 q, .int .i64 r, .int .i64 s]) rfl (by kernel_rfl) (by kernel_rfl) (by kernel_rfl) (fun _ _ _ h => h) (Or.inl ⟨by simp [Region.wanted], fun W hW => by obtain ⟨m1, m2⟩ := HCS.out W hW; have k0 := m1 0 p rfl; have k1 := m1 1 q rfl; have k2 := m1 2 r rfl; have k3 := m1 3 s rfl; rw [Nat.add_zero] at k0; go_simp⟩) hS ?_
        simp only [List.getElem_toArray, List.getElem_cons_zero, List.getElem_cons_succ, Act.put, List.setIfInBounds_toArray, List.set_cons_zero, List.set_cons_succ]
        refine wpAnyH_take (i := 6) (v := .slice (some ⟨b0, off, none⟩) L.length c) rfl (by kernel_rfl) (by kernel_rfl) (by kernel_rfl) (fun _ _ _ h => h) (Or.inl ⟨by simp [Region.wanted], fun W _ => by go_simp⟩) hS ?_
        simp only [List.getElem_toArray, List.getElem_cons_zero, List.getElem_cons_succ, Act.put, List.setIfInBounds_toArray, List.set_cons_zero, List.set_cons_succ]
        refine wpAnyH_take (i := 7) (v := .int .i64 ((j + 1 : Nat) : Int)) rfl (by kernel_rfl) (by kernel_rfl) (by kernel_rfl) (fun _ _ _ h => h) (Or.inl ⟨by simp [Region.wanted], fun W _ => by go_simp⟩) hS ?_
        simp only [List.getElem_toArray, List.getElem_cons_zero, List.getElem_cons_succ, Act.put, List.setIfInBounds_toArray, List.set_cons_zero, List.set_cons_succ]
        refine wpAnyH_take (i := 8) (v := .pointer (some ⟨b0, off + (j + 1) * 4, none⟩)) rfl (by kernel_rfl) (by kernel_rfl) (by kernel_rfl) (fun _ _ _ h => h) (Or.inl ⟨by simp [Region.wanted], fun W _ => by go_simp; intro hh; omega⟩) hS ?_
        simp only [List.getElem_toArray, List.getElem_cons_zero, List.getElem_cons_succ, Act.put, List.setIfInBounds_toArray, List.set_cons_zero, List.set_cons_succ]
        refine wpAnyH_take (i := 9) (v := .agg #[.int .i64 p', .int .i64 q', .int .i64 r', .int .i64 s']) rfl (by kernel_rfl) (by kernel_rfl) (by kernel_rfl) (fun _ _ _ h => h) (Or.inl ⟨by simp [Region.wanted], fun W hW => by obtain ⟨m1, m2⟩ := HCS.out W hW; have k0 := m2 0 p' rfl; have k1 := m2 1 q' rfl; have k2 := m2 2 r' rfl; have k3 := m2 3 s' rfl; rw [Nat.add_zero] at k0; go_simp⟩) hS ?_
        simp only [List.getElem_toArray, List.getElem_cons_zero, List.getElem_cons_succ, Act.put, List.setIfInBounds_toArray, List.set_cons_zero, List.set_cons_succ]
        refine wpAnyH_ready (rs := [10]) (by kernel_rfl) (by simp) ?_
        refine AllReadyH.cons rfl (fun K1 hK1 => ?_) AllReadyH.nil
        refine wanted_go rfl ?_
        simp only [List.getElem_toArray, List.getElem_cons_zero, List.getElem_cons_succ]
        go_wp2_with (go_at_call 63; refine (HCL.out _).mono ?_; rintro e y ⟨rfl, hy⟩)
        refine hK1.out _ _ (hS.trans (hy.mono hS.size)) (fun hS1 => ?_)
        refine wpAnyH_take (i := 11) (v := .bool false) rfl (by kernel_rfl) (by kernel_rfl) (by kernel_rfl) (fun _ _ _ h => h) (Or.inl ⟨by simp [Region.wanted], fun W _ => by go_simp⟩) hS1 ?_
        simp only [List.getElem_toArray, List.getElem_cons_zero, List.getElem_cons_succ, Act.put, List.setIfInBounds_toArray, List.set_cons_zero, List.set_cons_succ]
        refine wpAnyH_done (by kernel_rfl) ?_ _
        go_wp2
        go_roundw
        case rel => exact ⟨j + 1, by go_num, by omega, HNX.out, hS1⟩
        case measure => simp [intOf]; omega
    · have HD := Lib.hid (HR.out.symm.trans (show riseL lt1 L = true by have h := HRI.out; rwa [List.take_of_length_le (by omega)] at h))
      clear HRI
      go_wp2
      go_ret
      exact ⟨ret_bool HD.out.symm, HB.out⟩

set_option maxHeartbeats 4000000 in
theorem cloStake (p q r p' q' r' : Int) (w : World) : Calls Try.prog 66 #[.agg #[.int .i64 p, .int .i64 q, .int .i64 r], .agg #[.int .i64 p', .int .i64 q', .int .i64 r']] w fun e w' => e = .returned (.int .i64 (c2 p' q' [p, q, r])) ∧ Below w.heap.size w w' := by
  obtain ⟨W0, hW0⟩ : ∃ W, (w.alloc (.cells #[.int .i64 p, .int .i64 q, .int .i64 r] 43)).alloc (.cells #[.int .i64 p', .int .i64 q', .int .i64 r'] 43) = W := ⟨_, rfl⟩
  have hlo : Below w.heap.size w W0 := by rw [← hW0]; exact ((Below.refl _ w).alloc (Nat.le_refl _) _).alloc (by simp) _
  have hx : W0.heap[w.heap.size]? = some (.cells #[.int .i64 p, .int .i64 q, .int .i64 r] 43) ∧ W0.heap[w.heap.size + 1]? = some (.cells #[.int .i64 p', .int .i64 q', .int .i64 r'] 43) := by rw [← hW0]; exact two_new
  have k0 : W0.cell? ⟨w.heap.size, 0, none⟩ = some (.int .i64 p) := cell_of_row _ _ 0 _ 43 (0, 0) hx.1
  have k1 : W0.cell? ⟨w.heap.size, 1, none⟩ = some (.int .i64 q) := cell_of_row _ _ 1 _ 43 (0, 0) hx.1
  have k2 : W0.cell? ⟨w.heap.size, 2, none⟩ = some (.int .i64 r) := cell_of_row _ _ 2 _ 43 (0, 0) hx.1
  have j0 : W0.cell? ⟨w.heap.size + 1, 0, none⟩ = some (.int .i64 p') := cell_of_row _ _ 0 _ 43 (0, 0) hx.2
  have j1 : W0.cell? ⟨w.heap.size + 1, 1, none⟩ = some (.int .i64 q') := cell_of_row _ _ 1 _ 43 (0, 0) hx.2
  clear hx
  go_enter Try.func66, Try.ntmps66
  go_wp2_with (go_at_call 61; refine (byStakeC p q r p' q' W0).mono ?_; rintro e y ⟨rfl, hy⟩)
  go_ret
  exact ⟨rfl, hlo.trans (hy.mono hlo.size)⟩
set_option maxRecDepth 100000 in
set_option maxHeartbeats 8000000 in
theorem risesStake (a : Option Addr) (c : Nat) (L : List Item) (w : World) (hr : RowsOf 3 w a L) (hk : ItemsOk 3 2000 L) :
    Calls Try.prog 65 #[.slice a L.length c, .func (.func 66) #[] #[]] w fun e w' => e = .returned (.bool (riseL lt2 L)) ∧ Below w.heap.size w w' := by
  obtain ⟨RES, hR⟩ : ∃ r, riseL lt2 L = r := ⟨_, rfl⟩
  rw [hR]
  have HR := Lib.hid hR
  have HROW := Lib.hid hr
  have hkl := hk.1
  have HK := Lib.hid hk.2
  have HB0 := Lib.hid (Below.refl w.heap.size w)
  clear hR hr hk
  go_enter Try.func65, Try.ntmps65
  go_wp2
  go_loopw [5] (fun vi W => ∃ j : Nat, vi = .int .i64 (((j + 1 : Nat)) : Int) ∧ j ≤ L.length ∧ riseL lt2 (L.take (j + 1)) = true ∧ Below w.heap.size w W) (fun vi _ => L.length - (intOf vi).toNat)
  case atStart => exact ⟨0, rfl, Nat.zero_le _, by cases L <;> rfl, HB0.out⟩
  case round =>
    obtain ⟨j, rfl, hj, hri, hbw⟩ := hrel
    have HB := Lib.hid hbw
    have HRI := Lib.hid hri
    clear hbw hri
    by_cases hlt : j + 1 < L.length
    · obtain ⟨x, hx⟩ : ∃ x, L[j]? = some x := ⟨L[j]'(by omega), by simp⟩
      obtain ⟨y, hy⟩ : ∃ y, L[j + 1]? = some y := ⟨L[j + 1]'hlt, by simp [hlt]⟩
      have hnx := rise_next hx hy HRI.out
      obtain ⟨b0, off, rfl, hcs⟩ := two_at HROW.out hx hy
      obtain ⟨p, q, r, rfl⟩ := item3 (HK.out _ (List.mem_of_getElem? hx)).1
      obtain ⟨p', q', r', rfl⟩ := item3 (HK.out _ (List.mem_of_getElem? hy)).1
      have HCS := Lib.hid hcs
      have hji : ((j + 1 : Nat) : Int) - 1 = (j : Int) := by omega
      have HCC := Lib.hid (c2_lt [p, q, r] [p', q', r'])
      have HCL := Lib.hid (fun W => cloStake p q r p' q' r' W)
      have e9 : (c2 (key 0 [p', q', r']) (key 1 [p', q', r']) [p, q, r]) = c2 p' q' [p, q, r] := rfl
      rw [e9] at HCC
      obtain ⟨Z, hZ⟩ : ∃ zz, c2 p' q' [p, q, r] = zz := ⟨_, rfl⟩
      rw [hZ] at HCC HCL
      clear hcs hx hy hZ e9
      by_cases hz : 0 ≤ Z
      · have HNO := Lib.hid (HR.out.symm.trans (rise_no (lt := lt2) (i := j + 2) (by rw [hnx]; exact HCC.out.1 hz)))
        clear hnx HCC
        go_wp2
        refine wp_region_held_drew (S := fun W => Below w.heap.size w W) (by kernel_rfl) (below_drewN' HB.out 1) (fun hS => ?_)
        refine wpAnyH_take (i := 0) (v := .func (.func 66) #[] #[]) rfl (by kernel_rfl) (by kernel_rfl) (by kernel_rfl) (fun _ _ _ h => h) (Or.inl ⟨by simp [Region.wanted], fun W _ => by go_simp⟩) hS ?_
        simp only [List.getElem_toArray, List.getElem_cons_zero, Act.put, List.setIfInBounds_toArray, List.set_cons_zero, List.set_cons_succ]
        refine wpAnyH_take (i := 1) (v := .slice (some ⟨b0, off, none⟩) L.length c) rfl (by kernel_rfl) (by kernel_rfl) (by kernel_rfl) (fun _ _ _ h => h) (Or.inl ⟨by simp [Region.wanted], fun W _ => by go_simp⟩) hS ?_
        simp only [List.getElem_toArray, List.getElem_cons_zero, List.getElem_cons_succ, Act.put, List.setIfInBounds_toArray, List.set_cons_zero, List.set_cons_succ]
        refine wpAnyH_take (i := 2) (v := .int .i64 ((j + 1 : Nat) : Int)) rfl (by kernel_rfl) (by kernel_rfl) (by kernel_rfl) (fun _ _ _ h => h) (Or.inl ⟨by simp [Region.wanted], fun W _ => by go_simp⟩) hS ?_
        simp only [List.getElem_toArray, List.getElem_cons_zero, List.getElem_cons_succ, Act.put, List.setIfInBounds_toArray, List.set_cons_zero, List.set_cons_succ]
        refine wpAnyH_take (i := 3) (v := .int .i64 (j : Int)) rfl (by kernel_rfl) (by kernel_rfl) (by kernel_rfl) (fun _ _ _ h => h) (Or.inl ⟨by simp [Region.wanted], fun W _ => by go_simp; rw [IntKind.wrap_i64]; omega⟩) hS ?_
        simp only [List.getElem_toArray, List.getElem_cons_zero, List.getElem_cons_succ, Act.put, List.setIfInBounds_toArray, List.set_cons_zero, List.set_cons_succ]
        refine wpAnyH_take (i := 4) (v := .pointer (some ⟨b0, off + j * 3, none⟩)) rfl (by kernel_rfl) (by kernel_rfl) (by kernel_rfl) (fun _ _ _ h => h) (Or.inl ⟨by simp [Region.wanted], fun W _ => by go_simp; intro hh; omega⟩) hS ?_
        simp only [List.getElem_toArray, List.getElem_cons_zero, List.getElem_cons_succ, Act.put, List.setIfInBounds_toArray, List.set_cons_zero, List.set_cons_succ]
        refine wpAnyH_take (i := 5) (v := .agg #[.int .i64 p, .int .i64 q, .int .i64 r]) rfl (by kernel_rfl) (by kernel_rfl) (by kernel_rfl) (fun _ _ _ h => h) (Or.inl ⟨by simp [Region.wanted], fun W hW => by obtain ⟨m1, m2⟩ := HCS.out W hW; have k0 := m1 0 p rfl; have k1 := m1 1 q rfl; have k2 := m1 2 r rfl; rw [Nat.add_zero] at k0; go_simp⟩) hS ?_
        simp only [List.getElem_toArray, List.getElem_cons_zero, List.getElem_cons_succ, Act.put, List.setIfInBounds_toArray, List.set_cons_zero, List.set_cons_succ]
        refine wpAnyH_take (i := 6) (v := .slice (some ⟨b0, off, none⟩) L.length c) rfl (by kernel_rfl) (by kernel_rfl) (by kernel_rfl) (fun _ _ _ h => h) (Or.inl ⟨by simp [Region.wanted], fun W _ => by go_simp⟩) hS ?_
        simp only [List.getElem_toArray, List.getElem_cons_zero, List.getElem_cons_succ, Act.put, List.setIfInBounds_toArray, List.set_cons_zero, List.set_cons_succ]
        refine wpAnyH_take (i := 7) (v := .int .i64 ((j + 1 : Nat) : Int)) rfl (by kernel_rfl) (by kernel_rfl) (by kernel_rfl) (fun _ _ _ h => h) (Or.inl ⟨by simp [Region.wanted], fun W _ => by go_simp⟩) hS ?_
        simp only [List.getElem_toArray, List.getElem_cons_zero, List.getElem_cons_succ, Act.put, List.setIfInBounds_toArray, List.set_cons_zero, List.set_cons_succ]
        refine wpAnyH_take (i := 8) (v := .pointer (some ⟨b0, off + (j + 1) * 3, none⟩)) rfl (by kernel_rfl) (by kernel_rfl) (by kernel_rfl) (fun _ _ _ h => h) (Or.inl ⟨by simp [Region.wanted], fun W _ => by go_simp; intro hh; omega⟩) hS ?_
        simp only [List.getElem_toArray, List.getElem_cons_zero, List.getElem_cons_succ, Act.put, List.setIfInBounds_toArray, List.set_cons_zero, List.set_cons_succ]
        refine wpAnyH_take (i := 9) (v := .agg #[.int .i64 p', .int .i64 q', .int .i64 r']) rfl (by kernel_rfl) (by kernel_rfl) (by kernel_rfl) (fun _ _ _ h => h) (Or.inl ⟨by simp [Region.wanted], fun W hW => by obtain ⟨m1, m2⟩ := HCS.out W hW; have k0 := m2 0 p' rfl; have k1 := m2 1 q' rfl; have k2 := m2 2 r' rfl; rw [Nat.add_zero] at k0; go_simp⟩) hS ?_
        simp only [List.getElem_toArray, List.getElem_cons_zero, List.getElem_cons_succ, Act.put, List.setIfInBounds_toArray, List.set_cons_zero, List.set_cons_succ]
        refine wpAnyH_ready (rs := [10]) (by kernel_rfl) (by simp) ?_
        refine AllReadyH.cons rfl (fun K1 hK1 => ?_) AllReadyH.nil
        refine wanted_go rfl ?_
        simp only [List.getElem_toArray, List.getElem_cons_zero, List.getElem_cons_succ]
        go_wp2_with (go_at_call 66; refine (HCL.out _).mono ?_; rintro e y ⟨rfl, hy⟩)
        refine hK1.out _ _ (hS.trans (hy.mono hS.size)) (fun hS1 => ?_)
        refine wpAnyH_take (i := 11) (v := .bool true) rfl (by kernel_rfl) (by kernel_rfl) (by kernel_rfl) (fun _ _ _ h => h) (Or.inl ⟨by simp [Region.wanted], fun W _ => by go_simp⟩) hS1 ?_
        simp only [List.getElem_toArray, List.getElem_cons_zero, List.getElem_cons_succ, Act.put, List.setIfInBounds_toArray, List.set_cons_zero, List.set_cons_succ]
        refine wpAnyH_done (by kernel_rfl) ?_ _
        go_wp2
        go_ret
        exact ⟨ret_bool HNO.out.symm, hS1⟩
      · have HNX := Lib.hid (show riseL lt2 (L.take (j + 1 + 1)) = true by
          rw [hnx]
          cases hh : lt2 [p, q, r] [p', q', r']
          · exact absurd (HCC.out.2 hh) hz
          · rfl)
        clear hnx HCC
        go_wp2
        refine wp_region_held_drew (S := fun W => Below w.heap.size w W) (by kernel_rfl) (below_drewN' HB.out 1) (fun hS => ?_)
        refine wpAnyH_take (i := 0) (v := .func (.func 66) #[] #[]) rfl (by kernel_rfl) (by kernel_rfl) (by kernel_rfl) (fun _ _ _ h => h) (Or.inl ⟨by simp [Region.wanted], fun W _ => by go_simp⟩) hS ?_
        simp only [List.getElem_toArray, List.getElem_cons_zero, Act.put, List.setIfInBounds_toArray, List.set_cons_zero, List.set_cons_succ]
        refine wpAnyH_take (i := 1) (v := .slice (some ⟨b0, off, none⟩) L.length c) rfl (by kernel_rfl) (by kernel_rfl) (by kernel_rfl) (fun _ _ _ h => h) (Or.inl ⟨by simp [Region.wanted], fun W _ => by go_simp⟩) hS ?_
        simp only [List.getElem_toArray, List.getElem_cons_zero, List.getElem_cons_succ, Act.put, List.setIfInBounds_toArray, List.set_cons_zero, List.set_cons_succ]
        refine wpAnyH_take (i := 2) (v := .int .i64 ((j + 1 : Nat) : Int)) rfl (by kernel_rfl) (by kernel_rfl) (by kernel_rfl) (fun _ _ _ h => h) (Or.inl ⟨by simp [Region.wanted], fun W _ => by go_simp⟩) hS ?_
        simp only [List.getElem_toArray, List.getElem_cons_zero, List.getElem_cons_succ, Act.put, List.setIfInBounds_toArray, List.set_cons_zero, List.set_cons_succ]
        refine wpAnyH_take (i := 3) (v := .int .i64 (j : Int)) rfl (by kernel_rfl) (by kernel_rfl) (by kernel_rfl) (fun _ _ _ h => h) (Or.inl ⟨by simp [Region.wanted], fun W _ => by go_simp; rw [IntKind.wrap_i64]; omega⟩) hS ?_
        simp only [List.getElem_toArray, List.getElem_cons_zero, List.getElem_cons_succ, Act.put, List.setIfInBounds_toArray, List.set_cons_zero, List.set_cons_succ]
        refine wpAnyH_take (i := 4) (v := .pointer (some ⟨b0, off + j * 3, none⟩)) rfl (by kernel_rfl) (by kernel_rfl) (by kernel_rfl) (fun _ _ _ h => h) (Or.inl ⟨by simp [Region.wanted], fun W _ => by go_simp; intro hh; omega⟩) hS ?_
        simp only [List.getElem_toArray, List.getElem_cons_zero, List.getElem_cons_succ, Act.put, List.setIfInBounds_toArray, List.set_cons_zero, List.set_cons_succ]
        refine wpAnyH_take (i := 5) (v := .agg #[.int .i64 p, .int .i64 q, .int .i64 r]) rfl (by kernel_rfl) (by kernel_rfl) (by kernel_rfl) (fun _ _ _ h => h) (Or.inl ⟨by simp [Region.wanted], fun W hW => by obtain ⟨m1, m2⟩ := HCS.out W hW; have k0 := m1 0 p rfl; have k1 := m1 1 q rfl; have k2 := m1 2 r rfl; rw [Nat.add_zero] at k0; go_simp⟩) hS ?_
        simp only [List.getElem_toArray, List.getElem_cons_zero, List.getElem_cons_succ, Act.put, List.setIfInBounds_toArray, List.set_cons_zero, List.set_cons_succ]
        refine wpAnyH_take (i := 6) (v := .slice (some ⟨b0, off, none⟩) L.length c) rfl (by kernel_rfl) (by kernel_rfl) (by kernel_rfl) (fun _ _ _ h => h) (Or.inl ⟨by simp [Region.wanted], fun W _ => by go_simp⟩) hS ?_
        simp only [List.getElem_toArray, List.getElem_cons_zero, List.getElem_cons_succ, Act.put, List.setIfInBounds_toArray, List.set_cons_zero, List.set_cons_succ]
        refine wpAnyH_take (i := 7) (v := .int .i64 ((j + 1 : Nat) : Int)) rfl (by kernel_rfl) (by kernel_rfl) (by kernel_rfl) (fun _ _ _ h => h) (Or.inl ⟨by simp [Region.wanted], fun W _ => by go_simp⟩) hS ?_
        simp only [List.getElem_toArray, List.getElem_cons_zero, List.getElem_cons_succ, Act.put, List.setIfInBounds_toArray, List.set_cons_zero, List.set_cons_succ]
        refine wpAnyH_take (i := 8) (v := .pointer (some ⟨b0, off + (j + 1) * 3, none⟩)) rfl (by kernel_rfl) (by kernel_rfl) (by kernel_rfl) (fun _ _ _ h => h) (Or.inl ⟨by simp [Region.wanted], fun W _ => by go_simp; intro hh; omega⟩) hS ?_
        simp only [List.getElem_toArray, List.getElem_cons_zero, List.getElem_cons_succ, Act.put, List.setIfInBounds_toArray, List.set_cons_zero, List.set_cons_succ]
        refine wpAnyH_take (i := 9) (v := .agg #[.int .i64 p', .int .i64 q', .int .i64 r']) rfl (by kernel_rfl) (by kernel_rfl) (by kernel_rfl) (fun _ _ _ h => h) (Or.inl ⟨by simp [Region.wanted], fun W hW => by obtain ⟨m1, m2⟩ := HCS.out W hW; have k0 := m2 0 p' rfl; have k1 := m2 1 q' rfl; have k2 := m2 2 r' rfl; rw [Nat.add_zero] at k0; go_simp⟩) hS ?_
        simp only [List.getElem_toArray, List.getElem_cons_zero, List.getElem_cons_succ, Act.put, List.setIfInBounds_toArray, List.set_cons_zero, List.set_cons_succ]
        refine wpAnyH_ready (rs := [10]) (by kernel_rfl) (by simp) ?_
        refine AllReadyH.cons rfl (fun K1 hK1 => ?_) AllReadyH.nil
        refine wanted_go rfl ?_
        simp only [List.getElem_toArray, List.getElem_cons_zero, List.getElem_cons_succ]
        go_wp2_with (go_at_call 66; refine (HCL.out _).mono ?_; rintro e y ⟨rfl, hy⟩)
        refine hK1.out _ _ (hS.trans (hy.mono hS.size)) (fun hS1 => ?_)
        refine wpAnyH_take (i := 11) (v := .bool false) rfl (by kernel_rfl) (by kernel_rfl) (by kernel_rfl) (fun _ _ _ h => h) (Or.inl ⟨by simp [Region.wanted], fun W _ => by go_simp⟩) hS1 ?_
        simp only [List.getElem_toArray, List.getElem_cons_zero, List.getElem_cons_succ, Act.put, List.setIfInBounds_toArray, List.set_cons_zero, List.set_cons_succ]
        refine wpAnyH_done (by kernel_rfl) ?_ _
        go_wp2
        go_roundw
        case rel => exact ⟨j + 1, by go_num, by omega, HNX.out, hS1⟩
        case measure => simp [intOf]; omega
    · have HD := Lib.hid (HR.out.symm.trans (show riseL lt2 L = true by have h := HRI.out; rwa [List.take_of_length_le (by omega)] at h))
      clear HRI
      go_wp2
      go_ret
      exact ⟨ret_bool HD.out.symm, HB.out⟩

set_option maxHeartbeats 4000000 in
theorem cloOpen (p q r s t z p' q' r' s' t' z' : Int) (w : World) : Calls Try.prog 68 #[.agg #[.int .i64 p, .int .i64 q, .int .i64 r, .int .i64 s, .int .i64 t, .int .i64 z], .agg #[.int .i64 p', .int .i64 q', .int .i64 r', .int .i64 s', .int .i64 t', .int .i64 z']] w fun e w' => e = .returned (.int .i64 (c1 p' [p, q, r, s, t, z])) ∧ Below w.heap.size w w' := by
  obtain ⟨W0, hW0⟩ : ∃ W, (w.alloc (.cells #[.int .i64 p, .int .i64 q, .int .i64 r, .int .i64 s, .int .i64 t, .int .i64 z] 37)).alloc (.cells #[.int .i64 p', .int .i64 q', .int .i64 r', .int .i64 s', .int .i64 t', .int .i64 z'] 37) = W := ⟨_, rfl⟩
  have hlo : Below w.heap.size w W0 := by rw [← hW0]; exact ((Below.refl _ w).alloc (Nat.le_refl _) _).alloc (by simp) _
  have hx : W0.heap[w.heap.size]? = some (.cells #[.int .i64 p, .int .i64 q, .int .i64 r, .int .i64 s, .int .i64 t, .int .i64 z] 37) ∧ W0.heap[w.heap.size + 1]? = some (.cells #[.int .i64 p', .int .i64 q', .int .i64 r', .int .i64 s', .int .i64 t', .int .i64 z'] 37) := by rw [← hW0]; exact two_new
  have k0 : W0.cell? ⟨w.heap.size, 0, none⟩ = some (.int .i64 p) := cell_of_row _ _ 0 _ 37 (0, 0) hx.1
  have k1 : W0.cell? ⟨w.heap.size, 1, none⟩ = some (.int .i64 q) := cell_of_row _ _ 1 _ 37 (0, 0) hx.1
  have k2 : W0.cell? ⟨w.heap.size, 2, none⟩ = some (.int .i64 r) := cell_of_row _ _ 2 _ 37 (0, 0) hx.1
  have k3 : W0.cell? ⟨w.heap.size, 3, none⟩ = some (.int .i64 s) := cell_of_row _ _ 3 _ 37 (0, 0) hx.1
  have k4 : W0.cell? ⟨w.heap.size, 4, none⟩ = some (.int .i64 t) := cell_of_row _ _ 4 _ 37 (0, 0) hx.1
  have k5 : W0.cell? ⟨w.heap.size, 5, none⟩ = some (.int .i64 z) := cell_of_row _ _ 5 _ 37 (0, 0) hx.1
  have j0 : W0.cell? ⟨w.heap.size + 1, 0, none⟩ = some (.int .i64 p') := cell_of_row _ _ 0 _ 37 (0, 0) hx.2
  clear hx
  go_enter Try.func68, Try.ntmps68
  go_wp2_with (go_at_call 69; refine (byOpen p q r s t z p' W0).mono ?_; rintro e y ⟨rfl, hy⟩)
  go_ret
  exact ⟨rfl, hlo.trans (hy.mono hlo.size)⟩
set_option maxRecDepth 100000 in
set_option maxHeartbeats 8000000 in
theorem risesOpen (a : Option Addr) (c : Nat) (L : List Item) (w : World) (hr : RowsOf 6 w a L) (hk : ItemsOk 6 2000 L) :
    Calls Try.prog 67 #[.slice a L.length c, .func (.func 68) #[] #[]] w fun e w' => e = .returned (.bool (riseL lt1 L)) ∧ Below w.heap.size w w' := by
  obtain ⟨RES, hR⟩ : ∃ r, riseL lt1 L = r := ⟨_, rfl⟩
  rw [hR]
  have HR := Lib.hid hR
  have HROW := Lib.hid hr
  have hkl := hk.1
  have HK := Lib.hid hk.2
  have HB0 := Lib.hid (Below.refl w.heap.size w)
  clear hR hr hk
  go_enter Try.func67, Try.ntmps67
  go_wp2
  go_loopw [5] (fun vi W => ∃ j : Nat, vi = .int .i64 (((j + 1 : Nat)) : Int) ∧ j ≤ L.length ∧ riseL lt1 (L.take (j + 1)) = true ∧ Below w.heap.size w W) (fun vi _ => L.length - (intOf vi).toNat)
  case atStart => exact ⟨0, rfl, Nat.zero_le _, by cases L <;> rfl, HB0.out⟩
  case round =>
    obtain ⟨j, rfl, hj, hri, hbw⟩ := hrel
    have HB := Lib.hid hbw
    have HRI := Lib.hid hri
    clear hbw hri
    by_cases hlt : j + 1 < L.length
    · obtain ⟨x, hx⟩ : ∃ x, L[j]? = some x := ⟨L[j]'(by omega), by simp⟩
      obtain ⟨y, hy⟩ : ∃ y, L[j + 1]? = some y := ⟨L[j + 1]'hlt, by simp [hlt]⟩
      have hnx := rise_next hx hy HRI.out
      obtain ⟨b0, off, rfl, hcs⟩ := two_at HROW.out hx hy
      obtain ⟨p, q, r, s, t, z, rfl⟩ := item6 (HK.out _ (List.mem_of_getElem? hx)).1
      obtain ⟨p', q', r', s', t', z', rfl⟩ := item6 (HK.out _ (List.mem_of_getElem? hy)).1
      have HCS := Lib.hid hcs
      have hji : ((j + 1 : Nat) : Int) - 1 = (j : Int) := by omega
      have HCC := Lib.hid (c1_ltQ [p, q, r, s, t, z] [p', q', r', s', t', z'])
      have HCL := Lib.hid (fun W => cloOpen p q r s t z p' q' r' s' t' z' W)
      have e9 : (c1 (key 0 [p', q', r', s', t', z']) [p, q, r, s, t, z]) = c1 p' [p, q, r, s, t, z] := rfl
      rw [e9] at HCC
      obtain ⟨Z, hZ⟩ : ∃ zz, c1 p' [p, q, r, s, t, z] = zz := ⟨_, rfl⟩
      rw [hZ] at HCC HCL
      clear hcs hx hy hZ e9
      by_cases hz : 0 ≤ Z
      · have HNO := Lib.hid (HR.out.symm.trans (rise_no (lt := lt1) (i := j + 2) (by rw [hnx]; exact HCC.out.1 hz)))
        clear hnx HCC
        go_wp2
        refine wp_region_held_drew (S := fun W => Below w.heap.size w W) (by kernel_rfl) (below_drewN' HB.out 1) (fun hS => ?_)
        refine wpAnyH_take (i := 0) (v := .func (.func 68) #[] #[]) rfl (by kernel_rfl) (by kernel_rfl) (by kernel_rfl) (fun _ _ _ h => h) (Or.inl ⟨by simp [Region.wanted], fun W _ => by go_simp⟩) hS ?_
        simp only [List.getElem_toArray, List.getElem_cons_zero, Act.put, List.setIfInBounds_toArray, List.set_cons_zero, List.set_cons_succ]
        refine wpAnyH_take (i := 1) (v := .slice (some ⟨b0, off, none⟩) L.length c) rfl (by kernel_rfl) (by kernel_rfl) (by kernel_rfl) (fun _ _ _ h => h) (Or.inl ⟨by simp [Region.wanted], fun W _ => by go_simp⟩) hS ?_
        simp only [List.getElem_toArray, List.getElem_cons_zero, List.getElem_cons_succ, Act.put, List.setIfInBounds_toArray, List.set_cons_zero, List.set_cons_succ]
        refine wpAnyH_take (i := 2) (v := .int .i64 ((j + 1 : Nat) : Int)) rfl (by kernel_rfl) (by kernel_rfl) (by kernel_rfl) (fun _ _ _ h => h) (Or.inl ⟨by simp [Region.wanted], fun W _ => by go_simp⟩) hS ?_
        simp only [List.getElem_toArray, List.getElem_cons_zero, List.getElem_cons_succ, Act.put, List.setIfInBounds_toArray, List.set_cons_zero, List.set_cons_succ]
        refine wpAnyH_take (i := 3) (v := .int .i64 (j : Int)) rfl (by kernel_rfl) (by kernel_rfl) (by kernel_rfl) (fun _ _ _ h => h) (Or.inl ⟨by simp [Region.wanted], fun W _ => by go_simp; rw [IntKind.wrap_i64]; omega⟩) hS ?_
        simp only [List.getElem_toArray, List.getElem_cons_zero, List.getElem_cons_succ, Act.put, List.setIfInBounds_toArray, List.set_cons_zero, List.set_cons_succ]
        refine wpAnyH_take (i := 4) (v := .pointer (some ⟨b0, off + j * 6, none⟩)) rfl (by kernel_rfl) (by kernel_rfl) (by kernel_rfl) (fun _ _ _ h => h) (Or.inl ⟨by simp [Region.wanted], fun W _ => by go_simp; intro hh; omega⟩) hS ?_
        simp only [List.getElem_toArray, List.getElem_cons_zero, List.getElem_cons_succ, Act.put, List.setIfInBounds_toArray, List.set_cons_zero, List.set_cons_succ]
        refine wpAnyH_take (i := 5) (v := .agg #[.int .i64 p, .int .i64 q, .int .i64 r, .int .i64 s, .int .i64 t, .int .i64 z]) rfl (by kernel_rfl) (by kernel_rfl) (by kernel_rfl) (fun _ _ _ h => h) (Or.inl ⟨by simp [Region.wanted], fun W hW => by obtain ⟨m1, m2⟩ := HCS.out W hW; have k0 := m1 0 p rfl; have k1 := m1 1 q rfl; have k2 := m1 2 r rfl; have k3 := m1 3 s rfl; have k4 := m1 4 t rfl; have k5 := m1 5 z rfl; rw [Nat.add_zero] at k0; go_simp⟩) hS ?_
        simp only [List.getElem_toArray, List.getElem_cons_zero, List.getElem_cons_succ, Act.put, List.setIfInBounds_toArray, List.set_cons_zero, List.set_cons_succ]
        refine wpAnyH_take (i := 6) (v := .slice (some ⟨b0, off, none⟩) L.length c) rfl (by kernel_rfl) (by kernel_rfl) (by kernel_rfl) (fun _ _ _ h => h) (Or.inl ⟨by simp [Region.wanted], fun W _ => by go_simp⟩) hS ?_
        simp only [List.getElem_toArray, List.getElem_cons_zero, List.getElem_cons_succ, Act.put, List.setIfInBounds_toArray, List.set_cons_zero, List.set_cons_succ]
        refine wpAnyH_take (i := 7) (v := .int .i64 ((j + 1 : Nat) : Int)) rfl (by kernel_rfl) (by kernel_rfl) (by kernel_rfl) (fun _ _ _ h => h) (Or.inl ⟨by simp [Region.wanted], fun W _ => by go_simp⟩) hS ?_
        simp only [List.getElem_toArray, List.getElem_cons_zero, List.getElem_cons_succ, Act.put, List.setIfInBounds_toArray, List.set_cons_zero, List.set_cons_succ]
        refine wpAnyH_take (i := 8) (v := .pointer (some ⟨b0, off + (j + 1) * 6, none⟩)) rfl (by kernel_rfl) (by kernel_rfl) (by kernel_rfl) (fun _ _ _ h => h) (Or.inl ⟨by simp [Region.wanted], fun W _ => by go_simp; intro hh; omega⟩) hS ?_
        simp only [List.getElem_toArray, List.getElem_cons_zero, List.getElem_cons_succ, Act.put, List.setIfInBounds_toArray, List.set_cons_zero, List.set_cons_succ]
        refine wpAnyH_take (i := 9) (v := .agg #[.int .i64 p', .int .i64 q', .int .i64 r', .int .i64 s', .int .i64 t', .int .i64 z']) rfl (by kernel_rfl) (by kernel_rfl) (by kernel_rfl) (fun _ _ _ h => h) (Or.inl ⟨by simp [Region.wanted], fun W hW => by obtain ⟨m1, m2⟩ := HCS.out W hW; have k0 := m2 0 p' rfl; have k1 := m2 1 q' rfl; have k2 := m2 2 r' rfl; have k3 := m2 3 s' rfl; have k4 := m2 4 t' rfl; have k5 := m2 5 z' rfl; rw [Nat.add_zero] at k0; go_simp⟩) hS ?_
        simp only [List.getElem_toArray, List.getElem_cons_zero, List.getElem_cons_succ, Act.put, List.setIfInBounds_toArray, List.set_cons_zero, List.set_cons_succ]
        refine wpAnyH_ready (rs := [10]) (by kernel_rfl) (by simp) ?_
        refine AllReadyH.cons rfl (fun K1 hK1 => ?_) AllReadyH.nil
        refine wanted_go rfl ?_
        simp only [List.getElem_toArray, List.getElem_cons_zero, List.getElem_cons_succ]
        go_wp2_with (go_at_call 68; refine (HCL.out _).mono ?_; rintro e y ⟨rfl, hy⟩)
        refine hK1.out _ _ (hS.trans (hy.mono hS.size)) (fun hS1 => ?_)
        refine wpAnyH_take (i := 11) (v := .bool true) rfl (by kernel_rfl) (by kernel_rfl) (by kernel_rfl) (fun _ _ _ h => h) (Or.inl ⟨by simp [Region.wanted], fun W _ => by go_simp⟩) hS1 ?_
        simp only [List.getElem_toArray, List.getElem_cons_zero, List.getElem_cons_succ, Act.put, List.setIfInBounds_toArray, List.set_cons_zero, List.set_cons_succ]
        refine wpAnyH_done (by kernel_rfl) ?_ _
        go_wp2
        go_ret
        exact ⟨ret_bool HNO.out.symm, hS1⟩
      · have HNX := Lib.hid (show riseL lt1 (L.take (j + 1 + 1)) = true by
          rw [hnx]
          cases hh : lt1 [p, q, r, s, t, z] [p', q', r', s', t', z']
          · exact absurd (HCC.out.2 hh) hz
          · rfl)
        clear hnx HCC
        go_wp2
        refine wp_region_held_drew (S := fun W => Below w.heap.size w W) (by kernel_rfl) (below_drewN' HB.out 1) (fun hS => ?_)
        refine wpAnyH_take (i := 0) (v := .func (.func 68) #[] #[]) rfl (by kernel_rfl) (by kernel_rfl) (by kernel_rfl) (fun _ _ _ h => h) (Or.inl ⟨by simp [Region.wanted], fun W _ => by go_simp⟩) hS ?_
        simp only [List.getElem_toArray, List.getElem_cons_zero, Act.put, List.setIfInBounds_toArray, List.set_cons_zero, List.set_cons_succ]
        refine wpAnyH_take (i := 1) (v := .slice (some ⟨b0, off, none⟩) L.length c) rfl (by kernel_rfl) (by kernel_rfl) (by kernel_rfl) (fun _ _ _ h => h) (Or.inl ⟨by simp [Region.wanted], fun W _ => by go_simp⟩) hS ?_
        simp only [List.getElem_toArray, List.getElem_cons_zero, List.getElem_cons_succ, Act.put, List.setIfInBounds_toArray, List.set_cons_zero, List.set_cons_succ]
        refine wpAnyH_take (i := 2) (v := .int .i64 ((j + 1 : Nat) : Int)) rfl (by kernel_rfl) (by kernel_rfl) (by kernel_rfl) (fun _ _ _ h => h) (Or.inl ⟨by simp [Region.wanted], fun W _ => by go_simp⟩) hS ?_
        simp only [List.getElem_toArray, List.getElem_cons_zero, List.getElem_cons_succ, Act.put, List.setIfInBounds_toArray, List.set_cons_zero, List.set_cons_succ]
        refine wpAnyH_take (i := 3) (v := .int .i64 (j : Int)) rfl (by kernel_rfl) (by kernel_rfl) (by kernel_rfl) (fun _ _ _ h => h) (Or.inl ⟨by simp [Region.wanted], fun W _ => by go_simp; rw [IntKind.wrap_i64]; omega⟩) hS ?_
        simp only [List.getElem_toArray, List.getElem_cons_zero, List.getElem_cons_succ, Act.put, List.setIfInBounds_toArray, List.set_cons_zero, List.set_cons_succ]
        refine wpAnyH_take (i := 4) (v := .pointer (some ⟨b0, off + j * 6, none⟩)) rfl (by kernel_rfl) (by kernel_rfl) (by kernel_rfl) (fun _ _ _ h => h) (Or.inl ⟨by simp [Region.wanted], fun W _ => by go_simp; intro hh; omega⟩) hS ?_
        simp only [List.getElem_toArray, List.getElem_cons_zero, List.getElem_cons_succ, Act.put, List.setIfInBounds_toArray, List.set_cons_zero, List.set_cons_succ]
        refine wpAnyH_take (i := 5) (v := .agg #[.int .i64 p, .int .i64 q, .int .i64 r, .int .i64 s, .int .i64 t, .int .i64 z]) rfl (by kernel_rfl) (by kernel_rfl) (by kernel_rfl) (fun _ _ _ h => h) (Or.inl ⟨by simp [Region.wanted], fun W hW => by obtain ⟨m1, m2⟩ := HCS.out W hW; have k0 := m1 0 p rfl; have k1 := m1 1 q rfl; have k2 := m1 2 r rfl; have k3 := m1 3 s rfl; have k4 := m1 4 t rfl; have k5 := m1 5 z rfl; rw [Nat.add_zero] at k0; go_simp⟩) hS ?_
        simp only [List.getElem_toArray, List.getElem_cons_zero, List.getElem_cons_succ, Act.put, List.setIfInBounds_toArray, List.set_cons_zero, List.set_cons_succ]
        refine wpAnyH_take (i := 6) (v := .slice (some ⟨b0, off, none⟩) L.length c) rfl (by kernel_rfl) (by kernel_rfl) (by kernel_rfl) (fun _ _ _ h => h) (Or.inl ⟨by simp [Region.wanted], fun W _ => by go_simp⟩) hS ?_
        simp only [List.getElem_toArray, List.getElem_cons_zero, List.getElem_cons_succ, Act.put, List.setIfInBounds_toArray, List.set_cons_zero, List.set_cons_succ]
        refine wpAnyH_take (i := 7) (v := .int .i64 ((j + 1 : Nat) : Int)) rfl (by kernel_rfl) (by kernel_rfl) (by kernel_rfl) (fun _ _ _ h => h) (Or.inl ⟨by simp [Region.wanted], fun W _ => by go_simp⟩) hS ?_
        simp only [List.getElem_toArray, List.getElem_cons_zero, List.getElem_cons_succ, Act.put, List.setIfInBounds_toArray, List.set_cons_zero, List.set_cons_succ]
        refine wpAnyH_take (i := 8) (v := .pointer (some ⟨b0, off + (j + 1) * 6, none⟩)) rfl (by kernel_rfl) (by kernel_rfl) (by kernel_rfl) (fun _ _ _ h => h) (Or.inl ⟨by simp [Region.wanted], fun W _ => by go_simp; intro hh; omega⟩) hS ?_
        simp only [List.getElem_toArray, List.getElem_cons_zero, List.getElem_cons_succ, Act.put, List.setIfInBounds_toArray, List.set_cons_zero, List.set_cons_succ]
        refine wpAnyH_take (i := 9) (v := .agg #[.int .i64 p', .int .i64 q', .int .i64 r', .int .i64 s', .int .i64 t', .int .i64 z']) rfl (by kernel_rfl) (by kernel_rfl) (by kernel_rfl) (fun _ _ _ h => h) (Or.inl ⟨by simp [Region.wanted], fun W hW => by obtain ⟨m1, m2⟩ := HCS.out W hW; have k0 := m2 0 p' rfl; have k1 := m2 1 q' rfl; have k2 := m2 2 r' rfl; have k3 := m2 3 s' rfl; have k4 := m2 4 t' rfl; have k5 := m2 5 z' rfl; rw [Nat.add_zero] at k0; go_simp⟩) hS ?_
        simp only [List.getElem_toArray, List.getElem_cons_zero, List.getElem_cons_succ, Act.put, List.setIfInBounds_toArray, List.set_cons_zero, List.set_cons_succ]
        refine wpAnyH_ready (rs := [10]) (by kernel_rfl) (by simp) ?_
        refine AllReadyH.cons rfl (fun K1 hK1 => ?_) AllReadyH.nil
        refine wanted_go rfl ?_
        simp only [List.getElem_toArray, List.getElem_cons_zero, List.getElem_cons_succ]
        go_wp2_with (go_at_call 68; refine (HCL.out _).mono ?_; rintro e y ⟨rfl, hy⟩)
        refine hK1.out _ _ (hS.trans (hy.mono hS.size)) (fun hS1 => ?_)
        refine wpAnyH_take (i := 11) (v := .bool false) rfl (by kernel_rfl) (by kernel_rfl) (by kernel_rfl) (fun _ _ _ h => h) (Or.inl ⟨by simp [Region.wanted], fun W _ => by go_simp⟩) hS1 ?_
        simp only [List.getElem_toArray, List.getElem_cons_zero, List.getElem_cons_succ, Act.put, List.setIfInBounds_toArray, List.set_cons_zero, List.set_cons_succ]
        refine wpAnyH_done (by kernel_rfl) ?_ _
        go_wp2
        go_roundw
        case rel => exact ⟨j + 1, by go_num, by omega, HNX.out, hS1⟩
        case measure => simp [intOf]; omega
    · have HD := Lib.hid (HR.out.symm.trans (show riseL lt1 L = true by have h := HRI.out; rwa [List.take_of_length_le (by omega)] at h))
      clear HRI
      go_wp2
      go_ret
      exact ⟨ret_bool HD.out.symm, HB.out⟩

set_option maxHeartbeats 4000000 in
theorem cloRate (p q p' q' : Int) (w : World) : Calls Try.prog 71 #[.agg #[.int .i64 p, .int .i64 q], .agg #[.int .i64 p', .int .i64 q']] w fun e w' => e = .returned (.int .i64 (c1 p' [p, q])) ∧ Below w.heap.size w w' := by
  obtain ⟨W0, hW0⟩ : ∃ W, (w.alloc (.cells #[.int .i64 p, .int .i64 q] 67)).alloc (.cells #[.int .i64 p', .int .i64 q'] 67) = W := ⟨_, rfl⟩
  have hlo : Below w.heap.size w W0 := by rw [← hW0]; exact ((Below.refl _ w).alloc (Nat.le_refl _) _).alloc (by simp) _
  have hx : W0.heap[w.heap.size]? = some (.cells #[.int .i64 p, .int .i64 q] 67) ∧ W0.heap[w.heap.size + 1]? = some (.cells #[.int .i64 p', .int .i64 q'] 67) := by rw [← hW0]; exact two_new
  have k0 : W0.cell? ⟨w.heap.size, 0, none⟩ = some (.int .i64 p) := cell_of_row _ _ 0 _ 67 (0, 0) hx.1
  have k1 : W0.cell? ⟨w.heap.size, 1, none⟩ = some (.int .i64 q) := cell_of_row _ _ 1 _ 67 (0, 0) hx.1
  have j0 : W0.cell? ⟨w.heap.size + 1, 0, none⟩ = some (.int .i64 p') := cell_of_row _ _ 0 _ 67 (0, 0) hx.2
  clear hx
  go_enter Try.func71, Try.ntmps71
  go_wp2_with (go_at_call 72; refine (byRate p q p' W0).mono ?_; rintro e y ⟨rfl, hy⟩)
  go_ret
  exact ⟨rfl, hlo.trans (hy.mono hlo.size)⟩
set_option maxRecDepth 100000 in
set_option maxHeartbeats 8000000 in
theorem risesRate (a : Option Addr) (c : Nat) (L : List Item) (w : World) (hr : RowsOf 2 w a L) (hk : ItemsOk 2 2000 L) :
    Calls Try.prog 70 #[.slice a L.length c, .func (.func 71) #[] #[]] w fun e w' => e = .returned (.bool (riseL lt1 L)) ∧ Below w.heap.size w w' := by
  obtain ⟨RES, hR⟩ : ∃ r, riseL lt1 L = r := ⟨_, rfl⟩
  rw [hR]
  have HR := Lib.hid hR
  have HROW := Lib.hid hr
  have hkl := hk.1
  have HK := Lib.hid hk.2
  have HB0 := Lib.hid (Below.refl w.heap.size w)
  clear hR hr hk
  go_enter Try.func70, Try.ntmps70
  go_wp2
  go_loopw [5] (fun vi W => ∃ j : Nat, vi = .int .i64 (((j + 1 : Nat)) : Int) ∧ j ≤ L.length ∧ riseL lt1 (L.take (j + 1)) = true ∧ Below w.heap.size w W) (fun vi _ => L.length - (intOf vi).toNat)
  case atStart => exact ⟨0, rfl, Nat.zero_le _, by cases L <;> rfl, HB0.out⟩
  case round =>
    obtain ⟨j, rfl, hj, hri, hbw⟩ := hrel
    have HB := Lib.hid hbw
    have HRI := Lib.hid hri
    clear hbw hri
    by_cases hlt : j + 1 < L.length
    · obtain ⟨x, hx⟩ : ∃ x, L[j]? = some x := ⟨L[j]'(by omega), by simp⟩
      obtain ⟨y, hy⟩ : ∃ y, L[j + 1]? = some y := ⟨L[j + 1]'hlt, by simp [hlt]⟩
      have hnx := rise_next hx hy HRI.out
      obtain ⟨b0, off, rfl, hcs⟩ := two_at HROW.out hx hy
      obtain ⟨p, q, rfl⟩ := item2 (HK.out _ (List.mem_of_getElem? hx)).1
      obtain ⟨p', q', rfl⟩ := item2 (HK.out _ (List.mem_of_getElem? hy)).1
      have HCS := Lib.hid hcs
      have hji : ((j + 1 : Nat) : Int) - 1 = (j : Int) := by omega
      have HCC := Lib.hid (c1_ltQ [p, q] [p', q'])
      have HCL := Lib.hid (fun W => cloRate p q p' q' W)
      have e9 : (c1 (key 0 [p', q']) [p, q]) = c1 p' [p, q] := rfl
      rw [e9] at HCC
      obtain ⟨Z, hZ⟩ : ∃ zz, c1 p' [p, q] = zz := ⟨_, rfl⟩
      rw [hZ] at HCC HCL
      clear hcs hx hy hZ e9
      by_cases hz : 0 ≤ Z
      · have HNO := Lib.hid (HR.out.symm.trans (rise_no (lt := lt1) (i := j + 2) (by rw [hnx]; exact HCC.out.1 hz)))
        clear hnx HCC
        go_wp2
        refine wp_region_held_drew (S := fun W => Below w.heap.size w W) (by kernel_rfl) (below_drewN' HB.out 1) (fun hS => ?_)
        refine wpAnyH_take (i := 0) (v := .func (.func 71) #[] #[]) rfl (by kernel_rfl) (by kernel_rfl) (by kernel_rfl) (fun _ _ _ h => h) (Or.inl ⟨by simp [Region.wanted], fun W _ => by go_simp⟩) hS ?_
        simp only [List.getElem_toArray, List.getElem_cons_zero, Act.put, List.setIfInBounds_toArray, List.set_cons_zero, List.set_cons_succ]
        refine wpAnyH_take (i := 1) (v := .slice (some ⟨b0, off, none⟩) L.length c) rfl (by kernel_rfl) (by kernel_rfl) (by kernel_rfl) (fun _ _ _ h => h) (Or.inl ⟨by simp [Region.wanted], fun W _ => by go_simp⟩) hS ?_
        simp only [List.getElem_toArray, List.getElem_cons_zero, List.getElem_cons_succ, Act.put, List.setIfInBounds_toArray, List.set_cons_zero, List.set_cons_succ]
        refine wpAnyH_take (i := 2) (v := .int .i64 ((j + 1 : Nat) : Int)) rfl (by kernel_rfl) (by kernel_rfl) (by kernel_rfl) (fun _ _ _ h => h) (Or.inl ⟨by simp [Region.wanted], fun W _ => by go_simp⟩) hS ?_
        simp only [List.getElem_toArray, List.getElem_cons_zero, List.getElem_cons_succ, Act.put, List.setIfInBounds_toArray, List.set_cons_zero, List.set_cons_succ]
        refine wpAnyH_take (i := 3) (v := .int .i64 (j : Int)) rfl (by kernel_rfl) (by kernel_rfl) (by kernel_rfl) (fun _ _ _ h => h) (Or.inl ⟨by simp [Region.wanted], fun W _ => by go_simp; rw [IntKind.wrap_i64]; omega⟩) hS ?_
        simp only [List.getElem_toArray, List.getElem_cons_zero, List.getElem_cons_succ, Act.put, List.setIfInBounds_toArray, List.set_cons_zero, List.set_cons_succ]
        refine wpAnyH_take (i := 4) (v := .pointer (some ⟨b0, off + j * 2, none⟩)) rfl (by kernel_rfl) (by kernel_rfl) (by kernel_rfl) (fun _ _ _ h => h) (Or.inl ⟨by simp [Region.wanted], fun W _ => by go_simp; intro hh; omega⟩) hS ?_
        simp only [List.getElem_toArray, List.getElem_cons_zero, List.getElem_cons_succ, Act.put, List.setIfInBounds_toArray, List.set_cons_zero, List.set_cons_succ]
        refine wpAnyH_take (i := 5) (v := .agg #[.int .i64 p, .int .i64 q]) rfl (by kernel_rfl) (by kernel_rfl) (by kernel_rfl) (fun _ _ _ h => h) (Or.inl ⟨by simp [Region.wanted], fun W hW => by obtain ⟨m1, m2⟩ := HCS.out W hW; have k0 := m1 0 p rfl; have k1 := m1 1 q rfl; rw [Nat.add_zero] at k0; go_simp⟩) hS ?_
        simp only [List.getElem_toArray, List.getElem_cons_zero, List.getElem_cons_succ, Act.put, List.setIfInBounds_toArray, List.set_cons_zero, List.set_cons_succ]
        refine wpAnyH_take (i := 6) (v := .slice (some ⟨b0, off, none⟩) L.length c) rfl (by kernel_rfl) (by kernel_rfl) (by kernel_rfl) (fun _ _ _ h => h) (Or.inl ⟨by simp [Region.wanted], fun W _ => by go_simp⟩) hS ?_
        simp only [List.getElem_toArray, List.getElem_cons_zero, List.getElem_cons_succ, Act.put, List.setIfInBounds_toArray, List.set_cons_zero, List.set_cons_succ]
        refine wpAnyH_take (i := 7) (v := .int .i64 ((j + 1 : Nat) : Int)) rfl (by kernel_rfl) (by kernel_rfl) (by kernel_rfl) (fun _ _ _ h => h) (Or.inl ⟨by simp [Region.wanted], fun W _ => by go_simp⟩) hS ?_
        simp only [List.getElem_toArray, List.getElem_cons_zero, List.getElem_cons_succ, Act.put, List.setIfInBounds_toArray, List.set_cons_zero, List.set_cons_succ]
        refine wpAnyH_take (i := 8) (v := .pointer (some ⟨b0, off + (j + 1) * 2, none⟩)) rfl (by kernel_rfl) (by kernel_rfl) (by kernel_rfl) (fun _ _ _ h => h) (Or.inl ⟨by simp [Region.wanted], fun W _ => by go_simp; intro hh; omega⟩) hS ?_
        simp only [List.getElem_toArray, List.getElem_cons_zero, List.getElem_cons_succ, Act.put, List.setIfInBounds_toArray, List.set_cons_zero, List.set_cons_succ]
        refine wpAnyH_take (i := 9) (v := .agg #[.int .i64 p', .int .i64 q']) rfl (by kernel_rfl) (by kernel_rfl) (by kernel_rfl) (fun _ _ _ h => h) (Or.inl ⟨by simp [Region.wanted], fun W hW => by obtain ⟨m1, m2⟩ := HCS.out W hW; have k0 := m2 0 p' rfl; have k1 := m2 1 q' rfl; rw [Nat.add_zero] at k0; go_simp⟩) hS ?_
        simp only [List.getElem_toArray, List.getElem_cons_zero, List.getElem_cons_succ, Act.put, List.setIfInBounds_toArray, List.set_cons_zero, List.set_cons_succ]
        refine wpAnyH_ready (rs := [10]) (by kernel_rfl) (by simp) ?_
        refine AllReadyH.cons rfl (fun K1 hK1 => ?_) AllReadyH.nil
        refine wanted_go rfl ?_
        simp only [List.getElem_toArray, List.getElem_cons_zero, List.getElem_cons_succ]
        go_wp2_with (go_at_call 71; refine (HCL.out _).mono ?_; rintro e y ⟨rfl, hy⟩)
        refine hK1.out _ _ (hS.trans (hy.mono hS.size)) (fun hS1 => ?_)
        refine wpAnyH_take (i := 11) (v := .bool true) rfl (by kernel_rfl) (by kernel_rfl) (by kernel_rfl) (fun _ _ _ h => h) (Or.inl ⟨by simp [Region.wanted], fun W _ => by go_simp⟩) hS1 ?_
        simp only [List.getElem_toArray, List.getElem_cons_zero, List.getElem_cons_succ, Act.put, List.setIfInBounds_toArray, List.set_cons_zero, List.set_cons_succ]
        refine wpAnyH_done (by kernel_rfl) ?_ _
        go_wp2
        go_ret
        exact ⟨ret_bool HNO.out.symm, hS1⟩
      · have HNX := Lib.hid (show riseL lt1 (L.take (j + 1 + 1)) = true by
          rw [hnx]
          cases hh : lt1 [p, q] [p', q']
          · exact absurd (HCC.out.2 hh) hz
          · rfl)
        clear hnx HCC
        go_wp2
        refine wp_region_held_drew (S := fun W => Below w.heap.size w W) (by kernel_rfl) (below_drewN' HB.out 1) (fun hS => ?_)
        refine wpAnyH_take (i := 0) (v := .func (.func 71) #[] #[]) rfl (by kernel_rfl) (by kernel_rfl) (by kernel_rfl) (fun _ _ _ h => h) (Or.inl ⟨by simp [Region.wanted], fun W _ => by go_simp⟩) hS ?_
        simp only [List.getElem_toArray, List.getElem_cons_zero, Act.put, List.setIfInBounds_toArray, List.set_cons_zero, List.set_cons_succ]
        refine wpAnyH_take (i := 1) (v := .slice (some ⟨b0, off, none⟩) L.length c) rfl (by kernel_rfl) (by kernel_rfl) (by kernel_rfl) (fun _ _ _ h => h) (Or.inl ⟨by simp [Region.wanted], fun W _ => by go_simp⟩) hS ?_
        simp only [List.getElem_toArray, List.getElem_cons_zero, List.getElem_cons_succ, Act.put, List.setIfInBounds_toArray, List.set_cons_zero, List.set_cons_succ]
        refine wpAnyH_take (i := 2) (v := .int .i64 ((j + 1 : Nat) : Int)) rfl (by kernel_rfl) (by kernel_rfl) (by kernel_rfl) (fun _ _ _ h => h) (Or.inl ⟨by simp [Region.wanted], fun W _ => by go_simp⟩) hS ?_
        simp only [List.getElem_toArray, List.getElem_cons_zero, List.getElem_cons_succ, Act.put, List.setIfInBounds_toArray, List.set_cons_zero, List.set_cons_succ]
        refine wpAnyH_take (i := 3) (v := .int .i64 (j : Int)) rfl (by kernel_rfl) (by kernel_rfl) (by kernel_rfl) (fun _ _ _ h => h) (Or.inl ⟨by simp [Region.wanted], fun W _ => by go_simp; rw [IntKind.wrap_i64]; omega⟩) hS ?_
        simp only [List.getElem_toArray, List.getElem_cons_zero, List.getElem_cons_succ, Act.put, List.setIfInBounds_toArray, List.set_cons_zero, List.set_cons_succ]
        refine wpAnyH_take (i := 4) (v := .pointer (some ⟨b0, off + j * 2, none⟩)) rfl (by kernel_rfl) (by kernel_rfl) (by kernel_rfl) (fun _ _ _ h => h) (Or.inl ⟨by simp [Region.wanted], fun W _ => by go_simp; intro hh; omega⟩) hS ?_
        simp only [List.getElem_toArray, List.getElem_cons_zero, List.getElem_cons_succ, Act.put, List.setIfInBounds_toArray, List.set_cons_zero, List.set_cons_succ]
        refine wpAnyH_take (i := 5) (v := .agg #[.int .i64 p, .int .i64 q]) rfl (by kernel_rfl) (by kernel_rfl) (by kernel_rfl) (fun _ _ _ h => h) (Or.inl ⟨by simp [Region.wanted], fun W hW => by obtain ⟨m1, m2⟩ := HCS.out W hW; have k0 := m1 0 p rfl; have k1 := m1 1 q rfl; rw [Nat.add_zero] at k0; go_simp⟩) hS ?_
        simp only [List.getElem_toArray, List.getElem_cons_zero, List.getElem_cons_succ, Act.put, List.setIfInBounds_toArray, List.set_cons_zero, List.set_cons_succ]
        refine wpAnyH_take (i := 6) (v := .slice (some ⟨b0, off, none⟩) L.length c) rfl (by kernel_rfl) (by kernel_rfl) (by kernel_rfl) (fun _ _ _ h => h) (Or.inl ⟨by simp [Region.wanted], fun W _ => by go_simp⟩) hS ?_
        simp only [List.getElem_toArray, List.getElem_cons_zero, List.getElem_cons_succ, Act.put, List.setIfInBounds_toArray, List.set_cons_zero, List.set_cons_succ]
        refine wpAnyH_take (i := 7) (v := .int .i64 ((j + 1 : Nat) : Int)) rfl (by kernel_rfl) (by kernel_rfl) (by kernel_rfl) (fun _ _ _ h => h) (Or.inl ⟨by simp [Region.wanted], fun W _ => by go_simp⟩) hS ?_
        simp only [List.getElem_toArray, List.getElem_cons_zero, List.getElem_cons_succ, Act.put, List.setIfInBounds_toArray, List.set_cons_zero, List.set_cons_succ]
        refine wpAnyH_take (i := 8) (v := .pointer (some ⟨b0, off + (j + 1) * 2, none⟩)) rfl (by kernel_rfl) (by kernel_rfl) (by kernel_rfl) (fun _ _ _ h => h) (Or.inl ⟨by simp [Region.wanted], fun W _ => by go_simp; intro hh; omega⟩) hS ?_
        simp only [List.getElem_toArray, List.getElem_cons_zero, List.getElem_cons_succ, Act.put, List.setIfInBounds_toArray, List.set_cons_zero, List.set_cons_succ]
        refine wpAnyH_take (i := 9) (v := .agg #[.int .i64 p', .int .i64 q']) rfl (by kernel_rfl) (by kernel_rfl) (by kernel_rfl) (fun _ _ _ h => h) (Or.inl ⟨by simp [Region.wanted], fun W hW => by obtain ⟨m1, m2⟩ := HCS.out W hW; have k0 := m2 0 p' rfl; have k1 := m2 1 q' rfl; rw [Nat.add_zero] at k0; go_simp⟩) hS ?_
        simp only [List.getElem_toArray, List.getElem_cons_zero, List.getElem_cons_succ, Act.put, List.setIfInBounds_toArray, List.set_cons_zero, List.set_cons_succ]
        refine wpAnyH_ready (rs := [10]) (by kernel_rfl) (by simp) ?_
        refine AllReadyH.cons rfl (fun K1 hK1 => ?_) AllReadyH.nil
        refine wanted_go rfl ?_
        simp only [List.getElem_toArray, List.getElem_cons_zero, List.getElem_cons_succ]
        go_wp2_with (go_at_call 71; refine (HCL.out _).mono ?_; rintro e y ⟨rfl, hy⟩)
        refine hK1.out _ _ (hS.trans (hy.mono hS.size)) (fun hS1 => ?_)
        refine wpAnyH_take (i := 11) (v := .bool false) rfl (by kernel_rfl) (by kernel_rfl) (by kernel_rfl) (fun _ _ _ h => h) (Or.inl ⟨by simp [Region.wanted], fun W _ => by go_simp⟩) hS1 ?_
        simp only [List.getElem_toArray, List.getElem_cons_zero, List.getElem_cons_succ, Act.put, List.setIfInBounds_toArray, List.set_cons_zero, List.set_cons_succ]
        refine wpAnyH_done (by kernel_rfl) ?_ _
        go_wp2
        go_roundw
        case rel => exact ⟨j + 1, by go_num, by omega, HNX.out, hS1⟩
        case measure => simp [intOf]; omega
    · have HD := Lib.hid (HR.out.symm.trans (show riseL lt1 L = true by have h := HRI.out; rwa [List.take_of_length_le (by omega)] at h))
      clear HRI
      go_wp2
      go_ret
      exact ⟨ret_bool HD.out.symm, HB.out⟩

set_option maxRecDepth 100000 in
set_option maxHeartbeats 8000000 in
theorem prise32 (v : Slots) (b : BookT) (w : World) (hb : BookIn w v b) (hk : BookOk 2000 b) :
    Calls Try.prog 44 #[.agg (cellsB v b)] w fun e w' => e = .returned (.bool (riseT b)) ∧ Below w.heap.size w w' := by
  obtain ⟨W0, hW0⟩ : ∃ W, w.alloc (.cells (cellsB v b) 27) = W := ⟨_, rfl⟩
  have hlo : Below w.heap.size w W0 := by rw [← hW0]; exact (Below.refl _ w).alloc (Nat.le_refl _) _
  have hsz : W0.heap.size = w.heap.size + 1 := by rw [← hW0]; simp
  have hx : BoxB W0 w.heap.size v b := by rw [← hW0]; exact BoxB.new w v b
  have HCA := Lib.hid (show ∀ W, Below (w.heap.size + 1) W0 W → _ from fun W h => (hx.below h (by omega)).cells)
  have HLO := Lib.hid (show ∀ W, Below (w.heap.size + 1) W0 W → Below w.heap.size w W from fun W h => hlo.trans (h.mono (by omega)))
  have HWS := Lib.hid (show ∀ W, Below (w.heap.size + 1) W0 W → w.heap.size + 1 ≤ W.heap.size from fun W h => by have := h.size; omega)
  have HB0 := Lib.hid (show Below (w.heap.size + 1) W0 W0 from Below.refl _ _)
  have HE0 := Lib.hid (fun W (h : Below (w.heap.size + 1) W0 W) => risesHolder v.h v.ch b.hs W (hb.hs.below (HLO.out W h)) hk.hs)
  have HE1 := Lib.hid (fun W (h : Below (w.heap.size + 1) W0 W) => risesStake v.s v.cs b.ss W (hb.ss.below (HLO.out W h)) hk.ss)
  have HE2 := Lib.hid (fun W (h : Below (w.heap.size + 1) W0 W) => risesOpen v.o v.co b.os W (hb.os.below (HLO.out W h)) hk.os)
  have HE3 := Lib.hid (fun W (h : Below (w.heap.size + 1) W0 W) => risesRate v.r v.cr b.rs W (hb.rs.below (HLO.out W h)) hk.rs)
  obtain ⟨a0, a1, a2, a3, a4⟩ := HCA.out _ HB0.out
  unfold riseT cellsB at *
  clear hx hlo hsz hb hk
  generalize riseL lt1 b.hs = e0 at *
  generalize riseL lt2 b.ss = e1 at *
  generalize riseL lt1 b.os = e2 at *
  generalize riseL lt1 b.rs = e3 at *
  cases e0 with
  | false =>
    go_enter Try.func44, Try.ntmps44
    go_wp2_with (first | (go_at_call 62; refine (HE0.out _ HB0.out).mono ?_; rintro e y0 ⟨rfl, hy⟩; have HB1 := Lib.hid (HB0.out.trans (hy.mono (HWS.out _ HB0.out))); obtain ⟨a0, a1, a2, a3, a4⟩ := HCA.out _ HB1.out; clear hy))
    go_ret
    exact ⟨ret_bool (by simp), HLO.out _ HB1.out⟩
  | true =>
    cases e1 with
    | false =>
      go_enter Try.func44, Try.ntmps44
      go_wp2_with (first | (go_at_call 65; refine (HE1.out _ HB1.out).mono ?_; rintro e y1 ⟨rfl, hy⟩; have HB2 := Lib.hid (HB1.out.trans (hy.mono (HWS.out _ HB1.out))); obtain ⟨a0, a1, a2, a3, a4⟩ := HCA.out _ HB2.out; clear hy) | (go_at_call 62; refine (HE0.out _ HB0.out).mono ?_; rintro e y0 ⟨rfl, hy⟩; have HB1 := Lib.hid (HB0.out.trans (hy.mono (HWS.out _ HB0.out))); obtain ⟨a0, a1, a2, a3, a4⟩ := HCA.out _ HB1.out; clear hy))
      go_ret
      exact ⟨ret_bool (by simp), HLO.out _ HB2.out⟩
    | true =>
      cases e2 with
      | false =>
        go_enter Try.func44, Try.ntmps44
        go_wp2_with (first | (go_at_call 67; refine (HE2.out _ HB2.out).mono ?_; rintro e y2 ⟨rfl, hy⟩; have HB3 := Lib.hid (HB2.out.trans (hy.mono (HWS.out _ HB2.out))); obtain ⟨a0, a1, a2, a3, a4⟩ := HCA.out _ HB3.out; clear hy) | (go_at_call 65; refine (HE1.out _ HB1.out).mono ?_; rintro e y1 ⟨rfl, hy⟩; have HB2 := Lib.hid (HB1.out.trans (hy.mono (HWS.out _ HB1.out))); obtain ⟨a0, a1, a2, a3, a4⟩ := HCA.out _ HB2.out; clear hy) | (go_at_call 62; refine (HE0.out _ HB0.out).mono ?_; rintro e y0 ⟨rfl, hy⟩; have HB1 := Lib.hid (HB0.out.trans (hy.mono (HWS.out _ HB0.out))); obtain ⟨a0, a1, a2, a3, a4⟩ := HCA.out _ HB1.out; clear hy))
        go_ret
        exact ⟨ret_bool (by simp), HLO.out _ HB3.out⟩
      | true =>
        cases e3 with
        | false =>
          go_enter Try.func44, Try.ntmps44
          go_wp2_with (first | (go_at_call 70; refine (HE3.out _ HB3.out).mono ?_; rintro e y3 ⟨rfl, hy⟩; have HB4 := Lib.hid (HB3.out.trans (hy.mono (HWS.out _ HB3.out))); obtain ⟨a0, a1, a2, a3, a4⟩ := HCA.out _ HB4.out; clear hy) | (go_at_call 67; refine (HE2.out _ HB2.out).mono ?_; rintro e y2 ⟨rfl, hy⟩; have HB3 := Lib.hid (HB2.out.trans (hy.mono (HWS.out _ HB2.out))); obtain ⟨a0, a1, a2, a3, a4⟩ := HCA.out _ HB3.out; clear hy) | (go_at_call 65; refine (HE1.out _ HB1.out).mono ?_; rintro e y1 ⟨rfl, hy⟩; have HB2 := Lib.hid (HB1.out.trans (hy.mono (HWS.out _ HB1.out))); obtain ⟨a0, a1, a2, a3, a4⟩ := HCA.out _ HB2.out; clear hy) | (go_at_call 62; refine (HE0.out _ HB0.out).mono ?_; rintro e y0 ⟨rfl, hy⟩; have HB1 := Lib.hid (HB0.out.trans (hy.mono (HWS.out _ HB0.out))); obtain ⟨a0, a1, a2, a3, a4⟩ := HCA.out _ HB1.out; clear hy))
          go_ret
          exact ⟨ret_bool (by simp), HLO.out _ HB4.out⟩
        | true =>
          go_enter Try.func44, Try.ntmps44
          go_wp2_with (first | (go_at_call 70; refine (HE3.out _ HB3.out).mono ?_; rintro e y3 ⟨rfl, hy⟩; have HB4 := Lib.hid (HB3.out.trans (hy.mono (HWS.out _ HB3.out))); obtain ⟨a0, a1, a2, a3, a4⟩ := HCA.out _ HB4.out; clear hy) | (go_at_call 67; refine (HE2.out _ HB2.out).mono ?_; rintro e y2 ⟨rfl, hy⟩; have HB3 := Lib.hid (HB2.out.trans (hy.mono (HWS.out _ HB2.out))); obtain ⟨a0, a1, a2, a3, a4⟩ := HCA.out _ HB3.out; clear hy) | (go_at_call 65; refine (HE1.out _ HB1.out).mono ?_; rintro e y1 ⟨rfl, hy⟩; have HB2 := Lib.hid (HB1.out.trans (hy.mono (HWS.out _ HB1.out))); obtain ⟨a0, a1, a2, a3, a4⟩ := HCA.out _ HB2.out; clear hy) | (go_at_call 62; refine (HE0.out _ HB0.out).mono ?_; rintro e y0 ⟨rfl, hy⟩; have HB1 := Lib.hid (HB0.out.trans (hy.mono (HWS.out _ HB0.out))); obtain ⟨a0, a1, a2, a3, a4⟩ := HCA.out _ HB1.out; clear hy))
          go_ret
          exact ⟨ret_bool (by simp), HLO.out _ HB4.out⟩

set_option maxRecDepth 100000 in
set_option maxHeartbeats 8000000 in
theorem pfew31 (v : Slots) (b : BookT) (w : World) : Calls Try.prog 43 #[.agg (cellsB v b)] w fun e w' => e = .returned (.bool (sizesT b)) ∧ Below w.heap.size w w' := by
  have hlo : Below w.heap.size w (w.alloc (.cells (cellsB v b) 27)) := (Below.refl _ w).alloc (Nat.le_refl _) _
  obtain ⟨a0, a1, a2, a3, a4⟩ := (BoxB.new w v b).cells
  obtain ⟨RES, hR⟩ : ∃ r, sizesT b = r := ⟨_, rfl⟩
  rw [hR]
  unfold sizesT at hR
  unfold cellsB at *
  by_cases q0 : b.hs.length ≤ 32
  case neg =>
    have g0 : ¬ ((b.hs.length : Int) ≤ 32) := by omega
    rw [show decide (b.hs.length ≤ 32) = false from decide_eq_false q0] at hR
    simp only [Bool.false_and] at hR
    have HR := Lib.hid hR
    clear hR
    go_enter Try.func43, Try.ntmps43
    go_wp2
    go_ret
    exact ⟨ret_bool HR.out, hlo⟩
  have g0 : (b.hs.length : Int) ≤ 32 := by omega
  rw [show decide (b.hs.length ≤ 32) = true from decide_eq_true q0] at hR
  clear q0
  by_cases q1 : b.os.length ≤ 64
  case neg =>
    have g1 : ¬ ((b.os.length : Int) ≤ 64) := by omega
    rw [show decide (b.os.length ≤ 64) = false from decide_eq_false q1] at hR
    simp only [Bool.and_false, Bool.false_and] at hR
    have HR := Lib.hid hR
    clear hR
    go_enter Try.func43, Try.ntmps43
    go_wp2
    go_ret
    exact ⟨ret_bool HR.out, hlo⟩
  have g1 : (b.os.length : Int) ≤ 64 := by omega
  rw [show decide (b.os.length ≤ 64) = true from decide_eq_true q1] at hR
  clear q1
  by_cases q2 : b.rs.length ≤ 32
  case neg =>
    have g2 : ¬ ((b.rs.length : Int) ≤ 32) := by omega
    rw [show decide (b.rs.length ≤ 32) = false from decide_eq_false q2] at hR
    simp only [Bool.and_false, Bool.false_and, Bool.true_and] at hR
    have HR := Lib.hid hR
    clear hR
    go_enter Try.func43, Try.ntmps43
    go_wp2
    go_ret
    exact ⟨ret_bool HR.out, hlo⟩
  have g2 : (b.rs.length : Int) ≤ 32 := by omega
  rw [show decide (b.rs.length ≤ 32) = true from decide_eq_true q2] at hR
  clear q2
  by_cases q3 : 0 ≤ b.co
  case neg =>
    have g3 : ¬ (0 ≤ b.co) := by omega
    rw [show decide (0 ≤ b.co) = false from decide_eq_false q3] at hR
    simp only [Bool.and_false, Bool.false_and, Bool.true_and] at hR
    have HR := Lib.hid hR
    clear hR
    go_enter Try.func43, Try.ntmps43
    go_wp2
    go_ret
    exact ⟨ret_bool HR.out, hlo⟩
  have g3 : 0 ≤ b.co := by omega
  rw [show decide (0 ≤ b.co) = true from decide_eq_true q3] at hR
  by_cases q4 : b.co ≤ 1099511627776
  case neg =>
    have g4 : ¬ (b.co ≤ 1099511627776) := by omega
    rw [show decide (b.co ≤ 1099511627776) = false from decide_eq_false q4] at hR
    simp only [Bool.and_false, Bool.true_and] at hR
    have HR := Lib.hid hR
    clear hR
    go_enter Try.func43, Try.ntmps43
    go_wp2
    go_ret
    exact ⟨ret_bool HR.out, hlo⟩
  have g4 : b.co ≤ 1099511627776 := by omega
  rw [show decide (b.co ≤ 1099511627776) = true from decide_eq_true q4] at hR
  simp only [Bool.and_true] at hR
  have HR := Lib.hid hR
  clear hR
  go_enter Try.func43, Try.ntmps43
  go_wp2
  go_ret
  exact ⟨ret_bool HR.out, hlo⟩
end Go.Proofs.Ytmndkbfjmamnfaa
