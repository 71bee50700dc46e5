/- The program's find: contracts. -/
import Derived.Test.YtmndkbfjmamnfaaBkQ2
namespace Go.Proofs.Ytmndkbfjmamnfaa
open Go.RowKit Base Base2

def valI (k : Nat) (R : Option Item) : Value := match R with | some x => aggI x | none => aggI (List.replicate k 0)

set_option maxRecDepth 100000 in
set_option maxHeartbeats 4000000 in
theorem findHolder (a : Option Addr) (c : Nat) (L : List Item) (id : Int) (w : World) (hr : RowsOf 4 w a L) (hk : ItemsOk 4 2000 L) (hs : riseL lt1 L = true) :
    Calls Try.prog 82 #[.slice a L.length c, .int .i64 id, .func (.func 64) #[] #[]] w fun e w' => e = .returned (.tuple #[valI 4 (findL (is1 id) L), .bool (findL (is1 id) L).isSome]) ∧ Below w.heap.size w w' := by
  have HS := Lib.hid (fun W (h : Below w.heap.size w W) => placeHolder a c L id W (hr.below h) hk hs)
  have HROW := Lib.hid hr
  have hkl := hk.1
  have HK := Lib.hid hk.2
  have hpl := posL_le (c1 id) L
  have hf := find_pos (mono1 id) (is1_c id) hs
  rw [hf]
  have hlt := @foundL_lt (c1 id) L
  clear hr hk hs hf
  generalize foundL (c1 id) L = FO at *
  generalize posL (c1 id) L = PO at *
  obtain ⟨R, hR⟩ : ∃ R, (if FO = true then L[PO]? else none) = R := ⟨_, rfl⟩
  rw [hR]
  have HR := Lib.hid hR
  clear hR
  obtain ⟨W0, hW0⟩ : ∃ W, w.alloc (.cells #[.int .i64 0, .int .i64 0, .int .i64 0, .int .i64 0] 45) = W := ⟨_, rfl⟩
  have HB := Lib.hid (show Below w.heap.size w W0 by rw [← hW0]; exact (Below.refl _ w).alloc (Nat.le_refl _) _)
  have HSZ := Lib.hid (show W0.heap.size = w.heap.size + 1 by rw [← hW0]; simp)
  have HG := Lib.hid (show ∀ W, Below (w.heap.size + 1) W0 W → W.heap[w.heap.size]? = some (.cells #[.int .i64 0, .int .i64 0, .int .i64 0, .int .i64 0] 45 (0, 0)) from fun W h => (h.block _ (by omega)).trans (by rw [← hW0]; exact heap_alloc_new w _))
  cases FO with
  | true =>
    have hlt := hlt rfl
    obtain ⟨x, hx⟩ : ∃ x, L[PO]? = some x := ⟨L[PO], by simp [hlt]⟩
    have HX := Lib.hid (HR.out.symm.trans ((if_pos rfl).trans hx))
    obtain ⟨b0, off, rfl, hb0, hcs⟩ := HROW.out.at hx
    obtain ⟨p, q, r, s, rfl⟩ := item4 (HK.out _ (List.mem_of_getElem? hx)).1
    have HCS := Lib.hid hcs
    clear hcs hx HR
    go_enter Try.func82, Try.ntmps82
    go_wp2_with (first | ((with_reducible refine atStore (ty := 45) (x := .tmp 6) (y := .tmp 24) rfl ?_); refine wpList_store_row rfl 45 (.tmp 6) (.tmp 24) rfl w.heap.size #[.int .i64 p, .int .i64 q, .int .i64 r, .int .i64 s] rfl rfl 45 #[.int .i64 0, .int .i64 0, .int .i64 0, .int .i64 0] (HG.out _ HY.out) info33 rfl (by simp [Value.oneCell']) ?_) | (go_at_call 91; refine (HS.out _ HB.out).mono ?_; rintro e y ⟨rfl, hy⟩; have HY := Lib.hid (show Below (w.heap.size + 1) W0 y from hy.mono (by rw [HSZ.out]; exact Nat.le_refl _)); have HYW := Lib.hid (HB.out.trans (hy.mono HB.out.size)); have m0 := HCS.out y HYW.out 0 p rfl; have m1 := HCS.out y HYW.out 1 q rfl; have m2 := HCS.out y HYW.out 2 r rfl; have m3 := HCS.out y HYW.out 3 s rfl; rw [Nat.add_zero] at m0))
    refine ret_cell_tmp rfl rfl rfl rfl (setRow_heap _ _ _ _ _ _ (HG.out _ HY.out)) Try.underlying45 rfl info33 ?_
    rw [HX.out]
    exact ⟨rfl, below_row1 HYW.out (by omega)⟩
  | false =>
    have HX := Lib.hid (HR.out.symm.trans (if_neg (by simp)))
    clear HR
    go_enter Try.func82, Try.ntmps82
    go_wp2_with (first | ((with_reducible refine atStore (ty := 45) (x := .tmp 6) (y := .tmp 20) rfl ?_); refine wpList_store_row rfl 45 (.tmp 6) (.tmp 20) rfl w.heap.size #[.int .i64 0, .int .i64 0, .int .i64 0, .int .i64 0] rfl rfl 45 #[.int .i64 0, .int .i64 0, .int .i64 0, .int .i64 0] (HG.out _ (HY.out.alloc HYS.out _)) info33 rfl (by simp [Value.oneCell']) ?_) | (go_at_call 91; refine (HS.out _ HB.out).mono ?_; rintro e y ⟨rfl, hy⟩; have HY := Lib.hid (show Below (w.heap.size + 1) W0 y from hy.mono (by rw [HSZ.out]; exact Nat.le_refl _)); have HYS := Lib.hid (show w.heap.size + 1 ≤ y.heap.size by have h1 := hy.size; rw [HSZ.out] at h1; exact h1); have HYW := Lib.hid (HB.out.trans (hy.mono HB.out.size))))
    refine ret_cell_tmp rfl rfl rfl rfl (setRow_heap _ _ _ _ _ _ (HG.out _ (HY.out.alloc HYS.out _))) Try.underlying45 rfl info33 ?_
    rw [HX.out]
    exact ⟨rfl, below_row1 (HYW.out.alloc (Nat.le_trans (by omega) HYS.out) _) (by omega)⟩

set_option maxRecDepth 100000 in
set_option maxHeartbeats 4000000 in
theorem findRate (a : Option Addr) (c : Nat) (L : List Item) (id : Int) (w : World) (hr : RowsOf 2 w a L) (hk : ItemsOk 2 2000 L) (hs : riseL lt1 L = true) :
    Calls Try.prog 86 #[.slice a L.length c, .int .i64 id, .func (.func 72) #[] #[]] w fun e w' => e = .returned (.tuple #[valI 2 (findL (is1 id) L), .bool (findL (is1 id) L).isSome]) ∧ Below w.heap.size w w' := by
  have HS := Lib.hid (fun W (h : Below w.heap.size w W) => placeRate a c L id W (hr.below h) hk hs)
  have HROW := Lib.hid hr
  have hkl := hk.1
  have HK := Lib.hid hk.2
  have hpl := posL_le (c1 id) L
  have hf := find_pos (mono1 id) (is1_c id) hs
  rw [hf]
  have hlt := @foundL_lt (c1 id) L
  clear hr hk hs hf
  generalize foundL (c1 id) L = FO at *
  generalize posL (c1 id) L = PO at *
  obtain ⟨R, hR⟩ : ∃ R, (if FO = true then L[PO]? else none) = R := ⟨_, rfl⟩
  rw [hR]
  have HR := Lib.hid hR
  clear hR
  obtain ⟨W0, hW0⟩ : ∃ W, w.alloc (.cells #[.int .i64 0, .int .i64 0] 67) = W := ⟨_, rfl⟩
  have HB := Lib.hid (show Below w.heap.size w W0 by rw [← hW0]; exact (Below.refl _ w).alloc (Nat.le_refl _) _)
  have HSZ := Lib.hid (show W0.heap.size = w.heap.size + 1 by rw [← hW0]; simp)
  have HG := Lib.hid (show ∀ W, Below (w.heap.size + 1) W0 W → W.heap[w.heap.size]? = some (.cells #[.int .i64 0, .int .i64 0] 67 (0, 0)) from fun W h => (h.block _ (by omega)).trans (by rw [← hW0]; exact heap_alloc_new w _))
  cases FO with
  | true =>
    have hlt := hlt rfl
    obtain ⟨x, hx⟩ : ∃ x, L[PO]? = some x := ⟨L[PO], by simp [hlt]⟩
    have HX := Lib.hid (HR.out.symm.trans ((if_pos rfl).trans hx))
    obtain ⟨b0, off, rfl, hb0, hcs⟩ := HROW.out.at hx
    obtain ⟨p, q, rfl⟩ := item2 (HK.out _ (List.mem_of_getElem? hx)).1
    have HCS := Lib.hid hcs
    clear hcs hx HR
    go_enter Try.func86, Try.ntmps86
    go_wp2_with (first | ((with_reducible refine atStore (ty := 67) (x := .tmp 6) (y := .tmp 24) rfl ?_); refine wpList_store_row rfl 67 (.tmp 6) (.tmp 24) rfl w.heap.size #[.int .i64 p, .int .i64 q] rfl rfl 67 #[.int .i64 0, .int .i64 0] (HG.out _ HY.out) info47 rfl (by simp [Value.oneCell']) ?_) | (go_at_call 92; refine (HS.out _ HB.out).mono ?_; rintro e y ⟨rfl, hy⟩; have HY := Lib.hid (show Below (w.heap.size + 1) W0 y from hy.mono (by rw [HSZ.out]; exact Nat.le_refl _)); have HYW := Lib.hid (HB.out.trans (hy.mono HB.out.size)); have m0 := HCS.out y HYW.out 0 p rfl; have m1 := HCS.out y HYW.out 1 q rfl; rw [Nat.add_zero] at m0))
    refine ret_cell_tmp rfl rfl rfl rfl (setRow_heap _ _ _ _ _ _ (HG.out _ HY.out)) Try.underlying67 rfl info47 ?_
    rw [HX.out]
    exact ⟨rfl, below_row1 HYW.out (by omega)⟩
  | false =>
    have HX := Lib.hid (HR.out.symm.trans (if_neg (by simp)))
    clear HR
    go_enter Try.func86, Try.ntmps86
    go_wp2_with (first | ((with_reducible refine atStore (ty := 67) (x := .tmp 6) (y := .tmp 20) rfl ?_); refine wpList_store_row rfl 67 (.tmp 6) (.tmp 20) rfl w.heap.size #[.int .i64 0, .int .i64 0] rfl rfl 67 #[.int .i64 0, .int .i64 0] (HG.out _ (HY.out.alloc HYS.out _)) info47 rfl (by simp [Value.oneCell']) ?_) | (go_at_call 92; refine (HS.out _ HB.out).mono ?_; rintro e y ⟨rfl, hy⟩; have HY := Lib.hid (show Below (w.heap.size + 1) W0 y from hy.mono (by rw [HSZ.out]; exact Nat.le_refl _)); have HYS := Lib.hid (show w.heap.size + 1 ≤ y.heap.size by have h1 := hy.size; rw [HSZ.out] at h1; exact h1); have HYW := Lib.hid (HB.out.trans (hy.mono HB.out.size))))
    refine ret_cell_tmp rfl rfl rfl rfl (setRow_heap _ _ _ _ _ _ (HG.out _ (HY.out.alloc HYS.out _))) Try.underlying67 rfl info47 ?_
    rw [HX.out]
    exact ⟨rfl, below_row1 (HYW.out.alloc (Nat.le_trans (by omega) HYS.out) _) (by omega)⟩

set_option maxRecDepth 100000 in
set_option maxHeartbeats 4000000 in
theorem findStake (a : Option Addr) (c : Nat) (L : List Item) (id sy : Int) (w : World) (hr : RowsOf 3 w a L) (hk : ItemsOk 3 2000 L) (hs : riseL lt2 L = true) :
    Calls Try.prog 60 #[.slice a L.length c, .agg #[.int .i64 id, .int .i64 sy], .func (.func 61) #[] #[]] w fun e w' => e = .returned (.tuple #[valI 3 (findL (is2 id sy) L), .bool (findL (is2 id sy) L).isSome]) ∧ Below w.heap.size w w' := by
  have HS := Lib.hid (fun W (h : Below w.heap.size w W) => placeStake a c L id sy W (hr.below h) hk hs)
  have HROW := Lib.hid hr
  have hkl := hk.1
  have HK := Lib.hid hk.2
  have hpl := posL_le (c2 id sy) L
  have hf := find_pos (mono2 id sy) (is2_c id sy) hs
  rw [hf]
  have hlt := @foundL_lt (c2 id sy) L
  clear hr hk hs hf
  generalize foundL (c2 id sy) L = FO at *
  generalize posL (c2 id sy) L = PO at *
  obtain ⟨R, hR⟩ : ∃ R, (if FO = true then L[PO]? else none) = R := ⟨_, rfl⟩
  rw [hR]
  have HR := Lib.hid hR
  clear hR
  obtain ⟨W0, hW0⟩ : ∃ W, (w.alloc (.cells #[.int .i64 id, .int .i64 sy] 92)).alloc (.cells #[.int .i64 0, .int .i64 0, .int .i64 0] 43) = W := ⟨_, rfl⟩
  have HB := Lib.hid (show Below w.heap.size w W0 by rw [← hW0]; exact ((Below.refl _ w).alloc (Nat.le_refl _) _).alloc (by simp) _)
  have HSZ := Lib.hid (show W0.heap.size = w.heap.size + 2 by rw [← hW0]; simp)
  have hx : W0.heap[w.heap.size]? = some (.cells #[.int .i64 id, .int .i64 sy] 92) ∧ W0.heap[w.heap.size + 1]? = some (.cells #[.int .i64 0, .int .i64 0, .int .i64 0] 43) := by rw [← hW0]; exact two_new
  have HG := Lib.hid (show ∀ W, Below (w.heap.size + 2) W0 W → W.heap[w.heap.size + 1]? = some (.cells #[.int .i64 0, .int .i64 0, .int .i64 0] 43 (0, 0)) from fun W h => (h.block _ (by omega)).trans hx.2)
  have k0 : W0.cell? ⟨w.heap.size, 0, none⟩ = some (.int .i64 id) := cell_of_row _ _ 0 _ 92 (0, 0) hx.1
  have k1 : W0.cell? ⟨w.heap.size, 1, none⟩ = some (.int .i64 sy) := cell_of_row _ _ 1 _ 92 (0, 0) hx.1
  clear hx
  cases FO with
  | true =>
    have hlt := hlt rfl
    obtain ⟨x, hx⟩ : ∃ x, L[PO]? = some x := ⟨L[PO], by simp [hlt]⟩
    have HX := Lib.hid (HR.out.symm.trans ((if_pos rfl).trans hx))
    obtain ⟨b0, off, rfl, hb0, hcs⟩ := HROW.out.at hx
    obtain ⟨p, q, r, rfl⟩ := item3 (HK.out _ (List.mem_of_getElem? hx)).1
    have HCS := Lib.hid hcs
    clear hcs hx HR
    go_enter Try.func60, Try.ntmps60
    go_wp2_with (first | ((with_reducible refine atStore (ty := 43) (x := .tmp 6) (y := .tmp 24) rfl ?_); refine wpList_store_row rfl 43 (.tmp 6) (.tmp 24) rfl (w.heap.size + 1) #[.int .i64 p, .int .i64 q, .int .i64 r] rfl rfl 43 #[.int .i64 0, .int .i64 0, .int .i64 0] (HG.out _ HY.out) info45 rfl (by simp [Value.oneCell']) ?_) | (go_at_call 88; refine (HS.out _ HB.out).mono ?_; rintro e y ⟨rfl, hy⟩; have HY := Lib.hid (show Below (w.heap.size + 2) W0 y from hy.mono (by rw [HSZ.out]; exact Nat.le_refl _)); have HYW := Lib.hid (HB.out.trans (hy.mono HB.out.size)); have m0 := HCS.out y HYW.out 0 p rfl; have m1 := HCS.out y HYW.out 1 q rfl; have m2 := HCS.out y HYW.out 2 r rfl; rw [Nat.add_zero] at m0))
    refine ret_cell_tmp rfl rfl rfl rfl (setRow_heap _ _ _ _ _ _ (HG.out _ HY.out)) Try.underlying43 rfl info45 ?_
    rw [HX.out]
    exact ⟨rfl, below_row1 HYW.out (by omega)⟩
  | false =>
    have HX := Lib.hid (HR.out.symm.trans (if_neg (by simp)))
    clear HR
    go_enter Try.func60, Try.ntmps60
    go_wp2_with (first | ((with_reducible refine atStore (ty := 43) (x := .tmp 6) (y := .tmp 20) rfl ?_); refine wpList_store_row rfl 43 (.tmp 6) (.tmp 20) rfl (w.heap.size + 1) #[.int .i64 0, .int .i64 0, .int .i64 0] rfl rfl 43 #[.int .i64 0, .int .i64 0, .int .i64 0] (HG.out _ (HY.out.alloc HYS.out _)) info45 rfl (by simp [Value.oneCell']) ?_) | (go_at_call 88; refine (HS.out _ HB.out).mono ?_; rintro e y ⟨rfl, hy⟩; have HY := Lib.hid (show Below (w.heap.size + 2) W0 y from hy.mono (by rw [HSZ.out]; exact Nat.le_refl _)); have HYS := Lib.hid (show w.heap.size + 2 ≤ y.heap.size by have h1 := hy.size; rw [HSZ.out] at h1; exact h1); have HYW := Lib.hid (HB.out.trans (hy.mono HB.out.size))))
    refine ret_cell_tmp rfl rfl rfl rfl (setRow_heap _ _ _ _ _ _ (HG.out _ (HY.out.alloc HYS.out _))) Try.underlying43 rfl info45 ?_
    rw [HX.out]
    exact ⟨rfl, below_row1 (HYW.out.alloc (Nat.le_trans (by omega) HYS.out) _) (by omega)⟩
end Go.Proofs.Ytmndkbfjmamnfaa
