/- The program's all, allMay, May: contracts. -/
import Derived.Test.YtmndkbfjmamnfaaBkQ4
import Derived.Test.YtmndkbfjmamnfaaBkQ10
namespace Go.Proofs.Ytmndkbfjmamnfaa
open Go.RowKit Base Base2

set_option maxRecDepth 100000 in
set_option maxHeartbeats 8000000 in
theorem allHolder (tst : Item → Bool) (a : Option Addr) (c : Nat) (L : List Item) (w : World) (hr : RowsOf 4 w a L) (hk : ItemsOk 4 2000 L)
    (hcl : ∀ (p q r s : Int) (W : World), Below w.heap.size w W → Calls Try.prog 75 #[.agg #[.int .i64 p, .int .i64 q, .int .i64 r, .int .i64 s]] W fun e w' => e = .returned (.bool (tst [p, q, r, s])) ∧ Below W.heap.size W w') :
    Calls Try.prog 74 #[.slice a L.length c, .func (.func 75) #[] #[]] w fun e w' => e = .returned (.bool (L.all tst)) ∧ Below w.heap.size w w' := by
  obtain ⟨RES, hR⟩ : ∃ r, L.all tst = r := ⟨_, rfl⟩
  rw [hR]
  have HR := Lib.hid hR
  have HROW := Lib.hid hr
  have hkl := hk.1
  have HK := Lib.hid hk.2
  have HCL := Lib.hid hcl
  have HB0 := Lib.hid (Below.refl w.heap.size w)
  clear hR hr hk hcl
  go_enter Try.func74, Try.ntmps74
  go_wp2
  go_loopw [9] (fun vi W => ∃ i : Nat, vi = .int .i64 (i : Int) ∧ i ≤ L.length ∧ (L.take i).all tst = true ∧ Below w.heap.size w W) (fun vi _ => L.length - (intOf vi).toNat)
  case atStart => exact ⟨0, rfl, Nat.zero_le _, rfl, HB0.out⟩
  case round =>
    obtain ⟨i, rfl, hi, hal, hbw⟩ := hrel
    have HB := Lib.hid hbw
    have HAL := Lib.hid hal
    clear hbw hal
    by_cases hlt : i < L.length
    · obtain ⟨x, hx⟩ : ∃ x, L[i]? = some x := ⟨L[i], by simp [hlt]⟩
      obtain ⟨b0, off, rfl, hb0, hcs⟩ := HROW.out.at hx
      obtain ⟨p, q, r, s, rfl⟩ := item4 (HK.out _ (List.mem_of_getElem? hx)).1
      have k0 := hcs wr HB.out 0 p rfl
      have k1 := hcs wr HB.out 1 q rfl
      have k2 := hcs wr HB.out 2 r rfl
      have k3 := hcs wr HB.out 3 s rfl
      rw [Nat.add_zero] at k0
      have hbA : Below wr.heap.size wr ((wr.alloc (.cells #[.int .i64 0, .int .i64 0, .int .i64 0, .int .i64 0] 45)).setRow wr.heap.size #[.int .i64 p, .int .i64 q, .int .i64 r, .int .i64 s]) := below_rowB ((Below.refl _ _).alloc (Nat.le_refl _) _) (Nat.le_refl _)
      have HBA := Lib.hid (HB.out.trans (hbA.mono HB.out.size))
      have HGA := Lib.hid (show ((wr.alloc (.cells #[.int .i64 0, .int .i64 0, .int .i64 0, .int .i64 0] 45)).setRow wr.heap.size #[.int .i64 p, .int .i64 q, .int .i64 r, .int .i64 s]).heap[wr.heap.size]? = some (.cells #[.int .i64 p, .int .i64 q, .int .i64 r, .int .i64 s] 45 (0, 0)) from setRow_heap _ _ _ _ _ _ (heap_alloc_new wr _))
      clear hbA hcs
      cases ht : tst [p, q, r, s] with
      | false =>
        have HNO := Lib.hid (HR.out.symm.trans (all_no hx ht))
        have HC := Lib.hid (fun W h => HCL.out p q r s W h)
        rw [ht] at HC
        clear hx ht HCL
        go_wp2_with (first | ((with_reducible refine atStore (ty := 45) (x := .tmp 6) (y := .tmp 12) rfl ?_); refine wpList_store_row rfl 45 (.tmp 6) (.tmp 12) rfl wr.heap.size #[.int .i64 p, .int .i64 q, .int .i64 r, .int .i64 s] rfl rfl 45 #[.int .i64 0, .int .i64 0, .int .i64 0, .int .i64 0] (heap_alloc_new wr _) info33 rfl (by simp [Value.oneCell']) ?_) | ((with_reducible refine atLoad (ty := 45) (x := .tmp 6) rfl ?_); refine wpList_load_row rfl 45 (.tmp 6) rfl wr.heap.size rfl 45 #[.int .i64 p, .int .i64 q, .int .i64 r, .int .i64 s] (0, 0) _ HGA.out Try.underlying45 rfl info33 ?_) | (go_at_call 75; refine (HC.out _ HBA.out).mono ?_; rintro e y ⟨rfl, hy⟩))
        go_ret
        exact ⟨ret_bool HNO.out.symm, HBA.out.trans (hy.mono HBA.out.size)⟩
      | true =>
        have HNX := Lib.hid (all_next hx ht HAL.out)
        have HC := Lib.hid (fun W h => HCL.out p q r s W h)
        rw [ht] at HC
        clear hx ht
        go_wp2_with (first | ((with_reducible refine atStore (ty := 45) (x := .tmp 6) (y := .tmp 12) rfl ?_); refine wpList_store_row rfl 45 (.tmp 6) (.tmp 12) rfl wr.heap.size #[.int .i64 p, .int .i64 q, .int .i64 r, .int .i64 s] rfl rfl 45 #[.int .i64 0, .int .i64 0, .int .i64 0, .int .i64 0] (heap_alloc_new wr _) info33 rfl (by simp [Value.oneCell']) ?_) | ((with_reducible refine atLoad (ty := 45) (x := .tmp 6) rfl ?_); refine wpList_load_row rfl 45 (.tmp 6) rfl wr.heap.size rfl 45 #[.int .i64 p, .int .i64 q, .int .i64 r, .int .i64 s] (0, 0) _ HGA.out Try.underlying45 rfl info33 ?_) | (go_at_call 75; refine (HC.out _ HBA.out).mono ?_; rintro e y ⟨rfl, hy⟩))
        go_roundw
        case rel => exact ⟨i + 1, by go_num, hlt, HNX.out, HBA.out.trans (hy.mono HBA.out.size)⟩
        case measure => simp [intOf]; omega
    · have HD := Lib.hid (HR.out.symm.trans (show L.all tst = true by have h := HAL.out; rwa [List.take_of_length_le (by omega)] at h))
      clear HAL
      go_wp2
      go_ret
      exact ⟨ret_bool HD.out.symm, HB.out⟩

set_option maxRecDepth 100000 in
set_option maxHeartbeats 8000000 in
theorem allRate (tst : Item → Bool) (a : Option Addr) (c : Nat) (L : List Item) (w : World) (hr : RowsOf 2 w a L) (hk : ItemsOk 2 2000 L)
    (hcl : ∀ (p q : Int) (W : World), Below w.heap.size w W → Calls Try.prog 77 #[.agg #[.int .i64 p, .int .i64 q]] W fun e w' => e = .returned (.bool (tst [p, q])) ∧ Below W.heap.size W w') :
    Calls Try.prog 76 #[.slice a L.length c, .func (.func 77) #[] #[]] w fun e w' => e = .returned (.bool (L.all tst)) ∧ Below w.heap.size w w' := by
  obtain ⟨RES, hR⟩ : ∃ r, L.all tst = r := ⟨_, rfl⟩
  rw [hR]
  have HR := Lib.hid hR
  have HROW := Lib.hid hr
  have hkl := hk.1
  have HK := Lib.hid hk.2
  have HCL := Lib.hid hcl
  have HB0 := Lib.hid (Below.refl w.heap.size w)
  clear hR hr hk hcl
  go_enter Try.func76, Try.ntmps76
  go_wp2
  go_loopw [9] (fun vi W => ∃ i : Nat, vi = .int .i64 (i : Int) ∧ i ≤ L.length ∧ (L.take i).all tst = true ∧ Below w.heap.size w W) (fun vi _ => L.length - (intOf vi).toNat)
  case atStart => exact ⟨0, rfl, Nat.zero_le _, rfl, HB0.out⟩
  case round =>
    obtain ⟨i, rfl, hi, hal, hbw⟩ := hrel
    have HB := Lib.hid hbw
    have HAL := Lib.hid hal
    clear hbw hal
    by_cases hlt : i < L.length
    · obtain ⟨x, hx⟩ : ∃ x, L[i]? = some x := ⟨L[i], by simp [hlt]⟩
      obtain ⟨b0, off, rfl, hb0, hcs⟩ := HROW.out.at hx
      obtain ⟨p, q, rfl⟩ := item2 (HK.out _ (List.mem_of_getElem? hx)).1
      have k0 := hcs wr HB.out 0 p rfl
      have k1 := hcs wr HB.out 1 q rfl
      rw [Nat.add_zero] at k0
      have hbA : Below wr.heap.size wr ((wr.alloc (.cells #[.int .i64 0, .int .i64 0] 67)).setRow wr.heap.size #[.int .i64 p, .int .i64 q]) := below_rowB ((Below.refl _ _).alloc (Nat.le_refl _) _) (Nat.le_refl _)
      have HBA := Lib.hid (HB.out.trans (hbA.mono HB.out.size))
      have HGA := Lib.hid (show ((wr.alloc (.cells #[.int .i64 0, .int .i64 0] 67)).setRow wr.heap.size #[.int .i64 p, .int .i64 q]).heap[wr.heap.size]? = some (.cells #[.int .i64 p, .int .i64 q] 67 (0, 0)) from setRow_heap _ _ _ _ _ _ (heap_alloc_new wr _))
      clear hbA hcs
      cases ht : tst [p, q] with
      | false =>
        have HNO := Lib.hid (HR.out.symm.trans (all_no hx ht))
        have HC := Lib.hid (fun W h => HCL.out p q W h)
        rw [ht] at HC
        clear hx ht HCL
        go_wp2_with (first | ((with_reducible refine atStore (ty := 67) (x := .tmp 6) (y := .tmp 12) rfl ?_); refine wpList_store_row rfl 67 (.tmp 6) (.tmp 12) rfl wr.heap.size #[.int .i64 p, .int .i64 q] rfl rfl 67 #[.int .i64 0, .int .i64 0] (heap_alloc_new wr _) info47 rfl (by simp [Value.oneCell']) ?_) | ((with_reducible refine atLoad (ty := 67) (x := .tmp 6) rfl ?_); refine wpList_load_row rfl 67 (.tmp 6) rfl wr.heap.size rfl 67 #[.int .i64 p, .int .i64 q] (0, 0) _ HGA.out Try.underlying67 rfl info47 ?_) | (go_at_call 77; refine (HC.out _ HBA.out).mono ?_; rintro e y ⟨rfl, hy⟩))
        go_ret
        exact ⟨ret_bool HNO.out.symm, HBA.out.trans (hy.mono HBA.out.size)⟩
      | true =>
        have HNX := Lib.hid (all_next hx ht HAL.out)
        have HC := Lib.hid (fun W h => HCL.out p q W h)
        rw [ht] at HC
        clear hx ht
        go_wp2_with (first | ((with_reducible refine atStore (ty := 67) (x := .tmp 6) (y := .tmp 12) rfl ?_); refine wpList_store_row rfl 67 (.tmp 6) (.tmp 12) rfl wr.heap.size #[.int .i64 p, .int .i64 q] rfl rfl 67 #[.int .i64 0, .int .i64 0] (heap_alloc_new wr _) info47 rfl (by simp [Value.oneCell']) ?_) | ((with_reducible refine atLoad (ty := 67) (x := .tmp 6) rfl ?_); refine wpList_load_row rfl 67 (.tmp 6) rfl wr.heap.size rfl 67 #[.int .i64 p, .int .i64 q] (0, 0) _ HGA.out Try.underlying67 rfl info47 ?_) | (go_at_call 77; refine (HC.out _ HBA.out).mono ?_; rintro e y ⟨rfl, hy⟩))
        go_roundw
        case rel => exact ⟨i + 1, by go_num, hlt, HNX.out, HBA.out.trans (hy.mono HBA.out.size)⟩
        case measure => simp [intOf]; omega
    · have HD := Lib.hid (HR.out.symm.trans (show L.all tst = true by have h := HAL.out; rwa [List.take_of_length_le (by omega)] at h))
      clear HAL
      go_wp2
      go_ret
      exact ⟨ret_bool HD.out.symm, HB.out⟩

set_option maxRecDepth 100000 in
set_option maxHeartbeats 8000000 in
theorem allStake (tst : Item → Bool) (g : Nat) (a : Option Addr) (c : Nat) (L : List Item) (w : World) (hr : RowsOf 3 w a L) (hk : ItemsOk 3 2000 L)
    (hcl : ∀ (p q r : Int) (W : World), Below w.heap.size w W → Calls Try.prog 79 #[.agg #[.int .i64 p, .int .i64 q, .int .i64 r], .pointer (some ⟨g, 0, none⟩)] W fun e w' => e = .returned (.bool (tst [p, q, r])) ∧ Below W.heap.size W w') :
    Calls Try.prog 78 #[.slice a L.length c, .func (.func 79) #[] #[.pointer (some ⟨g, 0, none⟩)]] w fun e w' => e = .returned (.bool (L.all tst)) ∧ Below w.heap.size w w' := by
  obtain ⟨RES, hR⟩ : ∃ r, L.all tst = r := ⟨_, rfl⟩
  rw [hR]
  have HR := Lib.hid hR
  have HROW := Lib.hid hr
  have hkl := hk.1
  have HK := Lib.hid hk.2
  have HCL := Lib.hid hcl
  have HB0 := Lib.hid (Below.refl w.heap.size w)
  clear hR hr hk hcl
  go_enter Try.func78, Try.ntmps78
  go_wp2
  go_loopw [9] (fun vi W => ∃ i : Nat, vi = .int .i64 (i : Int) ∧ i ≤ L.length ∧ (L.take i).all tst = true ∧ Below w.heap.size w W) (fun vi _ => L.length - (intOf vi).toNat)
  case atStart => exact ⟨0, rfl, Nat.zero_le _, rfl, HB0.out⟩
  case round =>
    obtain ⟨i, rfl, hi, hal, hbw⟩ := hrel
    have HB := Lib.hid hbw
    have HAL := Lib.hid hal
    clear hbw hal
    by_cases hlt : i < L.length
    · obtain ⟨x, hx⟩ : ∃ x, L[i]? = some x := ⟨L[i], by simp [hlt]⟩
      obtain ⟨b0, off, rfl, hb0, hcs⟩ := HROW.out.at hx
      obtain ⟨p, q, r, rfl⟩ := item3 (HK.out _ (List.mem_of_getElem? hx)).1
      have k0 := hcs wr HB.out 0 p rfl
      have k1 := hcs wr HB.out 1 q rfl
      have k2 := hcs wr HB.out 2 r rfl
      rw [Nat.add_zero] at k0
      have hbA : Below wr.heap.size wr ((wr.alloc (.cells #[.int .i64 0, .int .i64 0, .int .i64 0] 43)).setRow wr.heap.size #[.int .i64 p, .int .i64 q, .int .i64 r]) := below_rowB ((Below.refl _ _).alloc (Nat.le_refl _) _) (Nat.le_refl _)
      have HBA := Lib.hid (HB.out.trans (hbA.mono HB.out.size))
      have HGA := Lib.hid (show ((wr.alloc (.cells #[.int .i64 0, .int .i64 0, .int .i64 0] 43)).setRow wr.heap.size #[.int .i64 p, .int .i64 q, .int .i64 r]).heap[wr.heap.size]? = some (.cells #[.int .i64 p, .int .i64 q, .int .i64 r] 43 (0, 0)) from setRow_heap _ _ _ _ _ _ (heap_alloc_new wr _))
      clear hbA hcs
      cases ht : tst [p, q, r] with
      | false =>
        have HNO := Lib.hid (HR.out.symm.trans (all_no hx ht))
        have HC := Lib.hid (fun W h => HCL.out p q r W h)
        rw [ht] at HC
        clear hx ht HCL
        go_wp2_with (first | ((with_reducible refine atStore (ty := 43) (x := .tmp 6) (y := .tmp 12) rfl ?_); refine wpList_store_row rfl 43 (.tmp 6) (.tmp 12) rfl wr.heap.size #[.int .i64 p, .int .i64 q, .int .i64 r] rfl rfl 43 #[.int .i64 0, .int .i64 0, .int .i64 0] (heap_alloc_new wr _) info45 rfl (by simp [Value.oneCell']) ?_) | ((with_reducible refine atLoad (ty := 43) (x := .tmp 6) rfl ?_); refine wpList_load_row rfl 43 (.tmp 6) rfl wr.heap.size rfl 43 #[.int .i64 p, .int .i64 q, .int .i64 r] (0, 0) _ HGA.out Try.underlying43 rfl info45 ?_) | (go_at_call 79; refine (HC.out _ HBA.out).mono ?_; rintro e y ⟨rfl, hy⟩))
        go_ret
        exact ⟨ret_bool HNO.out.symm, HBA.out.trans (hy.mono HBA.out.size)⟩
      | true =>
        have HNX := Lib.hid (all_next hx ht HAL.out)
        have HC := Lib.hid (fun W h => HCL.out p q r W h)
        rw [ht] at HC
        clear hx ht
        go_wp2_with (first | ((with_reducible refine atStore (ty := 43) (x := .tmp 6) (y := .tmp 12) rfl ?_); refine wpList_store_row rfl 43 (.tmp 6) (.tmp 12) rfl wr.heap.size #[.int .i64 p, .int .i64 q, .int .i64 r] rfl rfl 43 #[.int .i64 0, .int .i64 0, .int .i64 0] (heap_alloc_new wr _) info45 rfl (by simp [Value.oneCell']) ?_) | ((with_reducible refine atLoad (ty := 43) (x := .tmp 6) rfl ?_); refine wpList_load_row rfl 43 (.tmp 6) rfl wr.heap.size rfl 43 #[.int .i64 p, .int .i64 q, .int .i64 r] (0, 0) _ HGA.out Try.underlying43 rfl info45 ?_) | (go_at_call 79; refine (HC.out _ HBA.out).mono ?_; rintro e y ⟨rfl, hy⟩))
        go_roundw
        case rel => exact ⟨i + 1, by go_num, hlt, HNX.out, HBA.out.trans (hy.mono HBA.out.size)⟩
        case measure => simp [intOf]; omega
    · have HD := Lib.hid (HR.out.symm.trans (show L.all tst = true by have h := HAL.out; rwa [List.take_of_length_le (by omega)] at h))
      clear HAL
      go_wp2
      go_ret
      exact ⟨ret_bool HD.out.symm, HB.out⟩

set_option maxRecDepth 100000 in
set_option maxHeartbeats 8000000 in
theorem allOpen (tst : Item → Bool) (g : Nat) (a : Option Addr) (c : Nat) (L : List Item) (w : World) (hr : RowsOf 6 w a L) (hk : ItemsOk 6 2000 L)
    (hcl : ∀ (p q r s t z : Int) (W : World), Below w.heap.size w W → Calls Try.prog 81 #[.agg #[.int .i64 p, .int .i64 q, .int .i64 r, .int .i64 s, .int .i64 t, .int .i64 z], .pointer (some ⟨g, 0, none⟩)] W fun e w' => e = .returned (.bool (tst [p, q, r, s, t, z])) ∧ Below W.heap.size W w') :
    Calls Try.prog 80 #[.slice a L.length c, .func (.func 81) #[] #[.pointer (some ⟨g, 0, none⟩)]] w fun e w' => e = .returned (.bool (L.all tst)) ∧ Below w.heap.size w w' := by
  obtain ⟨RES, hR⟩ : ∃ r, L.all tst = r := ⟨_, rfl⟩
  rw [hR]
  have HR := Lib.hid hR
  have HROW := Lib.hid hr
  have hkl := hk.1
  have HK := Lib.hid hk.2
  have HCL := Lib.hid hcl
  have HB0 := Lib.hid (Below.refl w.heap.size w)
  clear hR hr hk hcl
  go_enter Try.func80, Try.ntmps80
  go_wp2
  go_loopw [9] (fun vi W => ∃ i : Nat, vi = .int .i64 (i : Int) ∧ i ≤ L.length ∧ (L.take i).all tst = true ∧ Below w.heap.size w W) (fun vi _ => L.length - (intOf vi).toNat)
  case atStart => exact ⟨0, rfl, Nat.zero_le _, rfl, HB0.out⟩
  case round =>
    obtain ⟨i, rfl, hi, hal, hbw⟩ := hrel
    have HB := Lib.hid hbw
    have HAL := Lib.hid hal
    clear hbw hal
    by_cases hlt : i < L.length
    · obtain ⟨x, hx⟩ : ∃ x, L[i]? = some x := ⟨L[i], by simp [hlt]⟩
      obtain ⟨b0, off, rfl, hb0, hcs⟩ := HROW.out.at hx
      obtain ⟨p, q, r, s, t, z, rfl⟩ := item6 (HK.out _ (List.mem_of_getElem? hx)).1
      have k0 := hcs wr HB.out 0 p rfl
      have k1 := hcs wr HB.out 1 q rfl
      have k2 := hcs wr HB.out 2 r rfl
      have k3 := hcs wr HB.out 3 s rfl
      have k4 := hcs wr HB.out 4 t rfl
      have k5 := hcs wr HB.out 5 z rfl
      rw [Nat.add_zero] at k0
      have hbA : Below wr.heap.size wr ((wr.alloc (.cells #[.int .i64 0, .int .i64 0, .int .i64 0, .int .i64 0, .int .i64 0, .int .i64 0] 37)).setRow wr.heap.size #[.int .i64 p, .int .i64 q, .int .i64 r, .int .i64 s, .int .i64 t, .int .i64 z]) := below_rowB ((Below.refl _ _).alloc (Nat.le_refl _) _) (Nat.le_refl _)
      have HBA := Lib.hid (HB.out.trans (hbA.mono HB.out.size))
      have HGA := Lib.hid (show ((wr.alloc (.cells #[.int .i64 0, .int .i64 0, .int .i64 0, .int .i64 0, .int .i64 0, .int .i64 0] 37)).setRow wr.heap.size #[.int .i64 p, .int .i64 q, .int .i64 r, .int .i64 s, .int .i64 t, .int .i64 z]).heap[wr.heap.size]? = some (.cells #[.int .i64 p, .int .i64 q, .int .i64 r, .int .i64 s, .int .i64 t, .int .i64 z] 37 (0, 0)) from setRow_heap _ _ _ _ _ _ (heap_alloc_new wr _))
      clear hbA hcs
      cases ht : tst [p, q, r, s, t, z] with
      | false =>
        have HNO := Lib.hid (HR.out.symm.trans (all_no hx ht))
        have HC := Lib.hid (fun W h => HCL.out p q r s t z W h)
        rw [ht] at HC
        clear hx ht HCL
        go_wp2_with (first | ((with_reducible refine atStore (ty := 37) (x := .tmp 6) (y := .tmp 12) rfl ?_); refine wpList_store_row rfl 37 (.tmp 6) (.tmp 12) rfl wr.heap.size #[.int .i64 p, .int .i64 q, .int .i64 r, .int .i64 s, .int .i64 t, .int .i64 z] rfl rfl 37 #[.int .i64 0, .int .i64 0, .int .i64 0, .int .i64 0, .int .i64 0, .int .i64 0] (heap_alloc_new wr _) info37 rfl (by simp [Value.oneCell']) ?_) | ((with_reducible refine atLoad (ty := 37) (x := .tmp 6) rfl ?_); refine wpList_load_row rfl 37 (.tmp 6) rfl wr.heap.size rfl 37 #[.int .i64 p, .int .i64 q, .int .i64 r, .int .i64 s, .int .i64 t, .int .i64 z] (0, 0) _ HGA.out Try.underlying37 rfl info37 ?_) | (go_at_call 81; refine (HC.out _ HBA.out).mono ?_; rintro e y ⟨rfl, hy⟩))
        go_ret
        exact ⟨ret_bool HNO.out.symm, HBA.out.trans (hy.mono HBA.out.size)⟩
      | true =>
        have HNX := Lib.hid (all_next hx ht HAL.out)
        have HC := Lib.hid (fun W h => HCL.out p q r s t z W h)
        rw [ht] at HC
        clear hx ht
        go_wp2_with (first | ((with_reducible refine atStore (ty := 37) (x := .tmp 6) (y := .tmp 12) rfl ?_); refine wpList_store_row rfl 37 (.tmp 6) (.tmp 12) rfl wr.heap.size #[.int .i64 p, .int .i64 q, .int .i64 r, .int .i64 s, .int .i64 t, .int .i64 z] rfl rfl 37 #[.int .i64 0, .int .i64 0, .int .i64 0, .int .i64 0, .int .i64 0, .int .i64 0] (heap_alloc_new wr _) info37 rfl (by simp [Value.oneCell']) ?_) | ((with_reducible refine atLoad (ty := 37) (x := .tmp 6) rfl ?_); refine wpList_load_row rfl 37 (.tmp 6) rfl wr.heap.size rfl 37 #[.int .i64 p, .int .i64 q, .int .i64 r, .int .i64 s, .int .i64 t, .int .i64 z] (0, 0) _ HGA.out Try.underlying37 rfl info37 ?_) | (go_at_call 81; refine (HC.out _ HBA.out).mono ?_; rintro e y ⟨rfl, hy⟩))
        go_roundw
        case rel => exact ⟨i + 1, by go_num, hlt, HNX.out, HBA.out.trans (hy.mono HBA.out.size)⟩
        case measure => simp [intOf]; omega
    · have HD := Lib.hid (HR.out.symm.trans (show L.all tst = true by have h := HAL.out; rwa [List.take_of_length_le (by omega)] at h))
      clear HAL
      go_wp2
      go_ret
      exact ⟨ret_bool HD.out.symm, HB.out⟩
end Go.Proofs.Ytmndkbfjmamnfaa
